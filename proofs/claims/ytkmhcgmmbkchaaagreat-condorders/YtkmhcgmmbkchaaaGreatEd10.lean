/- AddVertex, DropVertex, AddArc over a graph. -/
import Derived.Test.YtkmhcgmmbkchaaaGreatPan10
namespace Go.Proofs.YtkmhcgmmbkchaaaGreat

section
open Go.RowKit Go.Maps T9
set_option maxHeartbeats 8000000 in
set_option maxRecDepth 100000 in
theorem kpartAnewS {L : Nat → Nat} {a m ml n0 : Nat} {w : World} {f : Int → Option Nat} {g : Int → Int → Option Int} {cn : Int → Nat} {c p ma me : Nat} {lk : Int} {S : List (Part Int)} {x : Part Int} {v : Int} (h : EndsAt L a w ml f n0 g cn) (hb : w.heap[c]? = some (oC p ma ml me lk)) (hc : L c ≠ a) (hP : PAtN w p m S) (hcf : ¬ FootN p m S c) (hx : x ∈ S) (hv : v ∈ x.ks) (hV : ∀ p e q, okN p → okN e → g p e = some q → okN q) (hl : 0 ≤ lk) (hl2 : lk ≤ 1000000) (hn : tot S ≤ 1000) (hcn : (x.ks.map cn).sum ≤ 1000) :
    Calls Tryz.prog 38 #[.pointer (some ⟨c, 0, none⟩), .int .i64 v] w fun r w' => r = .returned (.tuple #[]) ∧ Hid (PaAns w c p m ma ml me lk g S x.ks w') := by
  have hcl := heap_lt hb
  have hkl : x.ks.length ≤ 1000 := by have := tot_without hP.fam hx; omega
  have hrise := hP.fam.rise x hx
  have hokx : ∀ k ∈ x.ks, okN k := hP.fam.keys x hx
  have C1 := hide (kMembersF (Q := fun v' w' => BRow w.heap.size w' v' x.ks ∧ Below w.heap.size w w') hb ((membersN v w hP hx hv (by omega)).mono fun e w' hh => hh))
  have HX : Hid (L c ≠ a ∧ ¬ FootN p m S c ∧ x ∈ S ∧ v ∈ x.ks ∧ (∀ p e q, okN p → okN e → g p e = some q → okN q) ∧ 0 ≤ lk ∧ lk ≤ 1000000 ∧ tot S ≤ 1000 ∧ (x.ks.map cn).sum ≤ 1000 ∧ c < w.heap.size ∧ x.ks.length ≤ 1000) := ⟨hc, hcf, hx, hv, hV, hl, hl2, hn, hcn, hcl, hkl⟩
  have HK : Hid (∀ W, Turned (fun b => b = c) w W → EndsAt L a W ml f n0 g cn ∧ PAtN W p m S) := fun W ht =>
    ⟨h.kept (fun b hbl hla => ht.block b hbl (fun e => hc (by rw [← e]; exact hla))), hP.kept (fun k hk => ht.block k (hP.lt hk) (fun e => hcf (by rw [← e]; exact hk)))⟩
  have HB0 := hide hb
  have HF : Hid (Fam ltN okN S ∧ x.ks.Pairwise (· < ·) ∧ x.ks.Nodup) := ⟨hP.fam, hrise.imp (fun hh => by simpa [ltN] using hh), hrise.imp (fun {a b} hh => by simp [ltN] at hh; omega)⟩
  have HFL : Hid (∀ j, FootN p m S j → j < w.heap.size) := fun j hj => hP.lt hj
  clear h hb hc hP hcf hx hv hV hl hl2 hn hcn hcl hkl hrise
  go_enter Tryz.func38, Tryz.ntmps38
  go_wp2_with fail
  refine (unhide C1).mono ?_
  rintro e w1 ⟨mv, rfl, HM⟩
  clear C1
  obtain ⟨m1, m2⟩ := unhide HM
  have ht1 : Turned (fun b => b = c) w w1 := turned_of_below m2
  obtain ⟨E1, P1⟩ := unhide HK w1 ht1
  obtain ⟨x1, x2, x3, x4, x5, x6, x7, x8, x9, x10, x11⟩ := unhide HX
  have b1 := (m2.block c x10).trans (unhide HB0)
  have C2 := hide (karcsWithinS E1 b1 x1 P1 x2 (brow_at0 m1) (fun e => by have := (m1.lt c e).1; omega) hokx x5 x6 x7 (by omega) (by omega))
  obtain ⟨ax, ac, hve, -⟩ := brow_shape m1
  obtain ⟨n, hnn⟩ : ∃ n, n = x.ks.length := ⟨_, rfl⟩
  subst hve
  rw [← hnn] at C2 m1 ⊢
  have HM1 : Hid (BRow w.heap.size w1 (.slice ax n ac) x.ks ∧ Below w.heap.size w w1 ∧ n = x.ks.length) := ⟨by rw [hnn] at m1 ⊢; exact m1, m2, hnn⟩
  clear HM m1 m2 ht1 E1 P1 x1 x2 x3 x4 x5 x6 x7 x8 x9 x10 x11 b1 hnn
  go_wp2_with fail
  refine (unhide C2).mono ?_
  intro r w2 hA
  obtain ⟨av, l, rfl, A1, A2, A3⟩ := unhide hA
  clear C2 hA
  obtain ⟨m1, m2, m3⟩ := unhide HM1
  obtain ⟨x1, x2, x3, x4, x5, x6, x7, x8, x9, x10, x11⟩ := unhide HX
  have nv2 : NRow w2 (.slice ax n ac) x.ks := nrow_kept (brow_at0 m1) (fun b e => A1.tur.block b (m1.lt b e).2 (fun q => by have := (m1.lt b e).1; omega))
  have C3 := hide (ofS nv2 (abrow_low A1.row (Nat.zero_le _)) (by omega) (by omega))
  have hT2 : Turned (fun b => b = c) w w2 := (turned_of_below m2).trans A1.tur
  have HA : Hid (w2.heap[c]? = some (oC p ma ml me (lk + (n : Int))) ∧ Turned (fun b => b = c) w w2 ∧ Tells g S x.ks l) := ⟨by rw [m3]; exact A1.box, hT2, A2⟩
  clear m1 m2 m3 x1 x2 x3 x4 x5 x6 x7 x8 x9 x10 x11 nv2 A1 A2 A3 hT2
  go_wp2_with fail
  refine (unhide C3).mono ?_
  intro r w3 hO
  obtain ⟨o1, o2⟩ := unhide hO
  clear C3 hO
  have hok0 : okArcs x.ks l := fun z hz => by
    obtain ⟨t1, t2, t3⟩ := ((unhide HA).2.2 z.1 z.2).1 hz
    exact ⟨t1, sp_in (unhide HF).1 (unhide HX).2.2.1 t1 t3⟩
  rcases o2 with ⟨q1, -⟩ | ⟨-, q1, -⟩ | ⟨-, -, cv0, V, rfl, hpm, hsV, h, H, -, LL⟩
  · exact absurd (unhide HF).2.2 q1
  · exact absurd hok0 q1
  obtain ⟨LA, lvs, LL⟩ := LL
  obtain ⟨k, hkk⟩ : ∃ k, k = (compsV V h V.length).length := ⟨_, rfl⟩
  obtain ⟨ya, yc, hye, -⟩ := LL.shape
  rw [← hkk] at hye
  have hp : ∀ k, k ∈ V ↔ k ∈ x.ks := fun k => hpm.mem_iff
  have hok : okArcs V l := fun z hz => ⟨(hp _).2 (hok0 z hz).1, (hp _).2 (hok0 z hz).2⟩
  have b3 := (o1.block c (heap_lt (unhide HA).1)).trans (unhide HA).1
  obtain ⟨l1, hl1⟩ : ∃ l1, l1 = lk + (n : Int) := ⟨_, rfl⟩
  obtain ⟨l2, hl2⟩ : ∃ l2, l2 = l1 + (n : Int) := ⟨_, rfl⟩
  rw [← hl1] at b3
  have zw : wrap64 (l1 + (n : Int)) = l2 := by
    obtain ⟨x1, x2, x3, x4, x5, x6, x7, x8, x9, x10, x11⟩ := unhide HX
    have := (unhide HM1).2.2
    unfold wrap64; omega
  obtain ⟨-, -, -, -, c5, cf⟩ := cellsC b3
  obtain ⟨w4, hw4⟩ : ∃ w4, w4 = w3.setCell ⟨c, 4, none⟩ (.int .i64 l2) := ⟨_, rfl⟩
  have b4 : w4.heap[c]? = some (oC p ma ml me l2) := by rw [hw4]; exact oC_look b3 l2
  have ht34 : Turned (fun b => b = c) w3 w4 := by rw [hw4]; exact turned_setCell w3 ⟨c, 4, none⟩ _ rfl
  have ht4 : Turned (fun b => b = c) w w4 := ((unhide HA).2.1.trans (turned_of_below o1)).trans ht34
  have P4 := (unhide HK w4 ht4).2
  have HL2 : Hid (l2 = lk + (x.ks.length : Int) + (x.ks.length : Int)) := by have := (unhide HM1).2.2; show l2 = _; omega
  have hsz2 := (unhide HA).2.1.size
  have HLL : Hid (∀ W, (∀ b, w.heap.size ≤ b → b < w4.heap.size → W.heap[b]? = w4.heap[b]?) → LLb w.heap.size w4.heap.size W (.slice ya k yc) (compsV V h V.length)) := fun W hW => by
    have hs34 := ht34.size
    have := LL.readIn (W := W) (fun b h1 h2 => (hW b (by omega) (by omega)).trans (ht34.block b h2 (fun e => by have := (unhide HX).2.2.2.2.2.2.2.2.2.1; omega)))
    rw [hye] at this
    obtain ⟨x', c', e', hh⟩ := this
    refine ⟨x', c', e', fun i ks hi => ?_⟩
    obtain ⟨g', y, h1, h2, h3, h4⟩ := hh i ks hi
    exact ⟨g', y, h1, h2, h3, fun b e => ⟨by have := (h4 b e).1; omega, by have := (h4 b e).2; omega⟩⟩
  have HV : Hid ((∀ k, k ∈ V ↔ k ∈ x.ks) ∧ V.Pairwise (· < ·) ∧ okArcs V l ∧ Heads (nextOf V l) V.length h ∧ Tells g S x.ks l ∧ k = (compsV V h V.length).length ∧ V.length ≤ 1000) := ⟨hp, hsV, hok, H, (unhide HA).2.2, hkk, by rw [hpm.length_eq]; exact (unhide HX).2.2.2.2.2.2.2.2.2.2⟩
  have H4 : Hid (w4.heap[c]? = some (oC p ma ml me l2) ∧ Turned (fun b => b = c) w w4 ∧ PAtN w4 p m S) := ⟨b4, ht4, P4⟩
  subst hye
  clear hok0 LL hkk hp hok b3 hl1 hl2 b4 ht34 ht4 P4 hsz2 hpm hsV H o1 HA HM1
  have HW4 := hide hw4
  subst hw4
  by_cases hk1 : k = 1
  · have z1 : ((k : Int) == 1) = true := by rw [hk1]; rfl
    have HR : Hid (PaAns w c p m ma ml me lk g S x.ks (w3.setCell ⟨c, 4, none⟩ (.int .i64 l2))) := by
      obtain ⟨b4, ht4, P4⟩ := unhide H4
      obtain ⟨v1, v2, v3, v4, v5, v6, v7⟩ := unhide HV
      refine ⟨S, ⟨by rw [← unhide HL2]; exact b4, P4, ht4.mono (fun k _ e => .inl e), fun j hj => .inl hj, rfl⟩, fun a b => ?_⟩
      exact sp_whole (unhide HF).1 (unhide HX).2.2.1 v1 v2 v3 v4 v5 (by rw [← v6]; exact hk1) a b
    clear HLL HV H4 HW4 HL2 HX HF HFL HK HB0 hk1 hokx
    go_wp2_with fail
    refine bodyPost_ret (results_none rfl _ _ _) rfl ?_
    exact ⟨rfl, unhide HR⟩
  · have z1 : ((k : Int) == 1) = false := by simp; omega
    clear hk1
    have d1 := (cellsC (unhide H4).1).1
    have C4 := hide (burstN v _ (unhide H4).2.2 (unhide HX).2.2.1 (unhide HX).2.2.2.1 (by have := (unhide HX).2.2.2.2.2.2.2.1; omega))
    go_wp2_with fail
    refine (unhide C4).mono ?_
    rintro e w5 ⟨rfl, HT⟩
    clear C4 c5 cf d1 zw z1
    generalize w3.setCell ⟨c, 4, none⟩ (.int .i64 l2) = w4 at *
    obtain ⟨T, t1, t2, t3, t4⟩ := unhide HT
    obtain ⟨b4, ht4, P4⟩ := unhide H4
    have hs4 := ht4.size
    have hs5 := t3.size
    have HST : Hid (∀ W Sj, PNext w5 p m (pout x S ++ T) Sj W → W.heap[c]? = some (oC p ma ml me l2) ∧ LLb w.heap.size w4.heap.size W (.slice ya k yc) (compsV V h V.length) ∧ (∀ b, w.heap.size ≤ b → b < w4.heap.size → ¬ FootN p m Sj b) ∧ ¬ FootN p m Sj c) := fun W Sj hN => by
      obtain ⟨x1, x2, x3, x4, x5, x6, x7, x8, x9, x10, x11⟩ := unhide HX
      have f1 : ¬ FootN p m (pout x S ++ T) c := fun hf => (t4 c hf).elim x2 (fun e => by omega)
      have f2 : ∀ b, w.heap.size ≤ b → b < w4.heap.size → ¬ FootN p m (pout x S ++ T) b := fun b h1 h2 hf => (t4 b hf).elim (fun e => by have := unhide HFL b e; omega) (fun e => by omega)
      refine ⟨(hN.tur.block c (by omega) f1).trans ((t3.block c (by omega) x2).trans b4), unhide HLL W (fun b h1 h2 => (hN.tur.block b (by omega) (f2 b h1 h2)).trans (t3.block b h2 (fun e => by have := unhide HFL b e; omega))), fun b h1 h2 hf => (hN.foot b hf).elim (f2 b h1 h2) (fun e => by omega), fun hf => (hN.foot c hf).elim f1 (fun e => by omega)⟩
    have HM0 : Hid (PMid w5 p m (pout x S ++ T) (compsV V h V.length) 0 w5) := ⟨_, PNext.refl t2, fun a b => by simp⟩
    have HSTEP : Hid (∀ W j cs y, (compsV V h V.length)[j]? = some cs → PMid w5 p m (pout x S ++ T) (compsV V h V.length) j W → NRow W y cs → (∀ b, y.ownBlock = some b → w.heap.size ≤ b ∧ b < w4.heap.size) → Calls Tryz.prog 60 #[.pointer (some ⟨c, 0, none⟩), y] W fun r w' => r = .returned (.tuple #[]) ∧ Hid (PMid w5 p m (pout x S ++ T) (compsV V h V.length) (j + 1) w')) := fun W j cs y hj hM hr hy => by
      obtain ⟨Sj, hN, hS⟩ := hM
      obtain ⟨x1, x2, x3, x4, x5, x6, x7, x8, x9, x10, x11⟩ := unhide HX
      obtain ⟨v1, v2, v3, v4, v5, v6, v7⟩ := unhide HV
      obtain ⟨s1, s2, s3, s4⟩ := unhide HST W Sj hN
      have hcm := List.mem_of_getElem? hj
      have hin : ∀ k ∈ cs, k ∈ x.ks := fun k hk => (v1 k).1 (comps_in hcm hk)
      have hal := fun k hk => burst_alone (unhide HF).1 x3 t1 (hin k hk)
      obtain ⟨y0, ys, hcs⟩ := comps_some v4 hcm
      have hcl : cs.length ≤ 1000 := by
        obtain ⟨m', hm, e⟩ := comp_at9.1 hj
        rw [e]
        have := partTo_le h V.length m'
        simp only [cv, List.length_map]; omega
      have hst : ∀ k ∈ cs, SP Sj k k := fun k hk => (hS k k).2 (.inl ((hal k hk k).2 rfl))
      have hall : ∀ ds ∈ (compsV V h V.length).take j, ∀ k ∈ cs, k ∉ ds := fun ds hds k hk hkd => by
        obtain ⟨i, hi⟩ := List.getElem?_of_mem hds
        have hij : i < j := by have := (List.getElem?_eq_some_iff.1 hi).1; rw [List.length_take] at this; omega
        rw [List.getElem?_take, if_pos hij] at hi
        exact comps_apart v2 hi hj hij hkd hk
      have htot : tot Sj < 1099511627776 := by rw [hN.tot_, tot_burst (unhide HF).1 x3 t1]; omega
      subst hcs
      refine (kjoinAllS s1 hN.at_ hr s4 (fun b e => s3 b (hy b e).1 (hy b e).2) hst htot (by simp at hcl; omega)).mono fun r w' hh => ⟨hh.1, ?_⟩
      exact PMid.step hN hS hj (unhide hh.2) hal hall
    have HEND : Hid (∀ W, PMid w5 p m (pout x S ++ T) (compsV V h V.length) k W → PaAns w c p m ma ml me lk g S x.ks W) := fun W hM => by
      obtain ⟨Sj, hN, hS⟩ := hM
      obtain ⟨x1, x2, x3, x4, x5, x6, x7, x8, x9, x10, x11⟩ := unhide HX
      obtain ⟨v1, v2, v3, v4, v5, v6, v7⟩ := unhide HV
      rw [v6, List.take_length] at hS
      refine ⟨Sj, ⟨by rw [← unhide HL2]; exact (unhide HST W Sj hN).1, hN.at_, ⟨hN.tur.os.trans (t3.os.trans ht4.os), hN.tur.tape.trans (t3.tape.trans ht4.tape), hN.tur.output.trans (t3.output.trans ht4.output), Nat.le_trans hs4 (Nat.le_trans hs5 hN.tur.size), fun b hb hn => ?_⟩, fun j hj => ?_, hN.tot_.trans (tot_burst (unhide HF).1 x3 t1)⟩, sp_anew (unhide HF).1 x3 t1 v1 v2 v3 v4 v5 hS⟩
      · have n1 : b ≠ c := fun e => hn (.inl e)
        have n2 : ¬ FootN p m S b := fun e => hn (.inr e)
        rw [hN.tur.block b (by omega) (fun e => (t4 b e).elim n2 (fun e => by omega)), t3.block b (by omega) n2, ht4.block b hb n1]
      · exact (hN.foot j hj).elim (fun e => (t4 j e).imp id (fun e => by omega)) (fun e => .inr (by omega))
    have HLN : Hid (k = (compsV V h V.length).length ∧ k ≤ 1000000) := ⟨(unhide HV).2.2.2.2.2.1, by
      have h1 := (unhide HV).2.2.2.2.2.1
      have h2 := outR_len V h V.length V.length
      rw [outR_all] at h2
      have := (unhide HV).2.2.2.2.2.2
      omega⟩
    clear HT t1 t2 t3 t4 b4 ht4 P4 hs4 hs5 HLL HV H4 HW4 HL2 HX HF HFL HK HB0 hokx
    generalize compsV V h V.length = css at *
    generalize pout x S ++ T = S1 at *
    go_wp2_with fail
    go_loopw [40] (fun s40 wr => ∃ j : Nat, j ≤ k ∧ s40 = .int .i64 j ∧ Hid (PMid w5 p m S1 css j wr)) (fun s40 _ => k - (intOf s40).toNat)
    case atStart => exact ⟨0, Nat.zero_le _, rfl, unhide HM0⟩
    case round =>
      obtain ⟨j, hj, rfl, hM⟩ := hrel
      clear HM0
      by_cases hlt : j < k
      · obtain ⟨cs, hcs⟩ : ∃ cs, css[j]? = some cs := ⟨_, List.getElem?_eq_getElem (by have := (unhide HLN).1; omega)⟩
        obtain ⟨Sj, hN, hS⟩ := unhide hM
        obtain ⟨x', c', e', hh⟩ := (unhide HST wr Sj hN).2.1
        obtain ⟨gI, y, e1, e2, e3, e4⟩ := hh j cs hcs
        have ex : ya = x' := by injection e'
        rw [e1] at ex
        subst ex
        have CJ := hide (unhide HSTEP wr j cs y hcs (unhide hM) e3 e4)
        have z1 : (j : Int) < (k : Int) := by omega
        obtain ⟨j1, hj1⟩ : ∃ j1, j1 = j + 1 := ⟨_, rfl⟩
        have zw : Hid (wrap64 ((j : Int) + 1) = (j1 : Int)) := by have := (unhide HLN).2; show wrap64 ((j : Int) + 1) = (j1 : Int); unfold wrap64; omega
        have HJ : Hid (j1 ≤ k ∧ k - j1 < k - j) := ⟨by omega, by omega⟩
        rw [← hj1] at CJ
        clear hcs hN hS e' hh e1 e3 e4 hj hlt hM hj1
        go_wp2_with fail
        refine (unhide CJ).mono ?_
        rintro e w6 ⟨rfl, HQ⟩
        clear CJ e2
        go_wp2_with fail
        (try rw [unhide zw])
        exact ⟨⟨j1, (unhide HJ).1, rfl, HQ⟩, by have := (unhide HJ).2; simp [intOf]; omega⟩
      · have z1 : ¬ (j : Int) < (k : Int) := by omega
        obtain rfl : j = k := by omega
        have HR := hide (unhide HEND wr (unhide hM))
        clear HEND HSTEP HST hM hj hlt
        go_wp2_with fail
        go_end0
        exact ⟨rfl, unhide HR⟩
end

section
open Go.RowKit Go.Maps T9
/-- The arc with this number. -/
def arcF (es : List EdV) (e : Int) : Option (Int × Int) := (es.find? (fun x => decide (x.1 = e))).map (fun x => (x.2.1, x.2.2.1))
theorem arcF_some {es : List EdV} {e : Int} {a : Int × Int} (h : arcF es e = some a) : ∃ x ∈ es, x.1 = e ∧ a = (x.2.1, x.2.2.1) := by
  unfold arcF at h
  obtain ⟨x, h1, h2⟩ := Option.map_eq_some_iff.1 h
  have h3 := List.find?_some (p := fun x : EdV => decide (x.1 = e)) h1
  exact ⟨x, List.mem_of_find?_eq_some h1, of_decide_eq_true h3, h2.symm⟩
theorem arcF_none {es : List EdV} {e : Int} : arcF es e = none ↔ ∀ x ∈ es, x.1 ≠ e := by
  unfold arcF
  rw [Option.map_eq_none_iff, List.find?_eq_none]
  exact ⟨fun h x hx e => h x hx (decide_eq_true e), fun h x hx e => h x hx (of_decide_eq_true e)⟩
theorem uni_eq : ∀ {es : List EdV}, (es.map (·.1)).Nodup → ∀ {x y : EdV}, x ∈ es → y ∈ es → x.1 = y.1 → x = y
  | [], _, x, y, hx, _, _ => by cases hx
  | z :: es, h, x, y, hx, hy, e => by
    rw [List.map_cons, List.nodup_cons] at h
    rcases List.mem_cons.1 hx with e1 | h1
    · rcases List.mem_cons.1 hy with e2 | h2
      · rw [e1, e2]
      · exact absurd (List.mem_map.2 ⟨y, h2, by rw [← e1]; exact e.symm⟩) h.1
    · rcases List.mem_cons.1 hy with e2 | h2
      · exact absurd (List.mem_map.2 ⟨x, h1, by rw [← e2]; exact e⟩) h.1
      · exact uni_eq h.2 h1 h2 e
theorem arcF_mem {es : List EdV} (hu : (es.map (·.1)).Nodup) {x : EdV} (hx : x ∈ es) : arcF es x.1 = some (x.2.1, x.2.2.1) := by
  cases h : arcF es x.1 with
  | none => exact absurd rfl (arcF_none.1 h x hx)
  | some a =>
    obtain ⟨y, hy, e1, e2⟩ := arcF_some h
    rw [e2, uni_eq hu hy hx e1]
theorem arcF_iff {es : List EdV} (hu : (es.map (·.1)).Nodup) {e : Int} {a : Int × Int} : arcF es e = some a ↔ ∃ x ∈ es, x.1 = e ∧ a = (x.2.1, x.2.2.1) := by
  refine ⟨arcF_some, ?_⟩
  rintro ⟨x, hx, rfl, rfl⟩
  exact arcF_mem hu hx
def gOut (es : List EdV) (u e : Int) : Option Int := match arcF es e with | some a => if a.1 = u then some a.2 else none | none => none
def gIn (es : List EdV) (v e : Int) : Option Int := match arcF es e with | some a => if a.2 = v then some a.1 else none | none => none
theorem gOut_some {es : List EdV} {u e v : Int} : gOut es u e = some v ↔ arcF es e = some (u, v) := by
  unfold gOut
  cases arcF es e with
  | none => simp
  | some a =>
    obtain ⟨a1, a2⟩ := a
    by_cases h : a1 = u
    · simp [h]
    · simp [h]
theorem gIn_some {es : List EdV} {u e v : Int} : gIn es v e = some u ↔ arcF es e = some (u, v) := by
  unfold gIn
  cases arcF es e with
  | none => simp
  | some a =>
    obtain ⟨a1, a2⟩ := a
    by_cases h : a2 = v
    · simp [h]
    · simp [h]
theorem arcF_snoc {es : List EdV} {e u v b : Int} (h : arcF es e = none) : arcF (es ++ [(e, u, v, b)]) = putG (arcF es) e (some (u, v)) := by
  funext y
  unfold putG
  by_cases q : y = e
  · rw [if_pos q, q]
    unfold arcF
    have h1 : es.find? (fun x => decide (x.1 = e)) = none := by
      rw [List.find?_eq_none]
      intro x hx hd
      exact arcF_none.1 h x hx (of_decide_eq_true hd)
    rw [List.find?_append, h1]
    simp
  · rw [if_neg q]
    unfold arcF
    rw [List.find?_append]
    have : [((e, u, v, b) : EdV)].find? (fun x => decide (x.1 = y)) = none := by
      simp; exact fun h => q h.symm
    rw [this, Option.or_none]
theorem cut_mem {es : List EdV} (hu : (es.map (·.1)).Nodup) {i : Nat} {x : EdV} (hi : es[i]? = some x) (y : EdV) : y ∈ es.take i ++ es.drop (i + 1) ↔ y ∈ es ∧ y.1 ≠ x.1 := by
  obtain ⟨hl, e⟩ := List.getElem?_eq_some_iff.1 hi
  have e2 : es = es.take i ++ x :: es.drop (i + 1) := by
    rw [← e, List.getElem_cons_drop, List.take_append_drop]
  have hx : x ∈ es := List.mem_of_getElem? hi
  constructor
  · intro hy
    have hy2 : y ∈ es := by
      rw [e2]
      rcases List.mem_append.1 hy with h | h
      · exact List.mem_append.2 (.inl h)
      · exact List.mem_append.2 (.inr (List.mem_cons_of_mem _ h))
    refine ⟨hy2, fun q => ?_⟩
    have hyx := uni_eq hu hy2 hx q
    rw [e2, List.map_append, List.map_cons, List.nodup_append] at hu
    obtain ⟨-, n2, n3⟩ := hu
    rw [hyx] at hy
    rcases List.mem_append.1 hy with h | h
    · exact n3 x.1 (List.mem_map.2 ⟨x, h, rfl⟩) x.1 List.mem_cons_self rfl
    · exact (List.nodup_cons.1 n2).1 (List.mem_map.2 ⟨x, h, rfl⟩)
  · rintro ⟨hy, q⟩
    rw [e2] at hy
    rcases List.mem_append.1 hy with h | h
    · exact List.mem_append.2 (.inl h)
    · rcases List.mem_cons.1 h with h | h
      · exact absurd (by rw [h]) q
      · exact List.mem_append.2 (.inr h)
theorem cut_uni {es : List EdV} (hu : (es.map (·.1)).Nodup) (i : Nat) : ((es.take i ++ es.drop (i + 1)).map (·.1)).Nodup := by
  have : (es.take i ++ es.drop (i + 1)).Sublist es := by
    have h1 := List.Sublist.append (List.Sublist.refl (es.take i)) (List.drop_sublist_drop_left es (Nat.le_succ i))
    rw [List.take_append_drop] at h1
    exact h1
  exact (this.map _).nodup hu
theorem arcF_cut {es : List EdV} (hu : (es.map (·.1)).Nodup) {i : Nat} {x : EdV} (hi : es[i]? = some x) : arcF (es.take i ++ es.drop (i + 1)) = putG (arcF es) x.1 none := by
  funext y
  apply Option.ext
  intro a
  rw [arcF_iff (cut_uni hu i)]
  unfold putG
  constructor
  · rintro ⟨z, hz, rfl, rfl⟩
    obtain ⟨h1, h2⟩ := (cut_mem hu hi z).1 hz
    rw [if_neg h2]
    exact arcF_mem hu h1
  · intro h
    by_cases q : y = x.1
    · rw [if_pos q] at h; cases h
    · rw [if_neg q] at h
      obtain ⟨z, hz, e1, e2⟩ := arcF_some h
      exact ⟨z, (cut_mem hu hi z).2 ⟨hz, by rw [e1]; exact q⟩, e1, e2⟩
theorem gOut_snoc {es : List EdV} {e u v b : Int} (h : arcF es e = none) : putE (gOut es) u e (some v) = gOut (es ++ [(e, u, v, b)]) := by
  funext x y
  apply Option.ext
  intro z
  rw [gOut_some, arcF_snoc h]
  unfold putE putG
  by_cases q : y = e
  · rw [if_pos q]
    by_cases q2 : x = u
    · rw [if_pos ⟨q2, q⟩, q2]; simp
    · rw [if_neg (fun h => q2 h.1), gOut_some, q, h]
      simp; exact fun hh => absurd hh.symm q2
  · rw [if_neg (fun h => q h.2), if_neg q, gOut_some]
theorem gIn_snoc {es : List EdV} {e u v b : Int} (h : arcF es e = none) : putE (gIn es) v e (some u) = gIn (es ++ [(e, u, v, b)]) := by
  funext x y
  apply Option.ext
  intro z
  rw [gIn_some, arcF_snoc h]
  unfold putE putG
  by_cases q : y = e
  · rw [if_pos q]
    by_cases q2 : x = v
    · rw [if_pos ⟨q2, q⟩, q2]; simp
    · rw [if_neg (fun h => q2 h.1), gIn_some, q, h]
      simp; exact fun _ hh => absurd hh.symm q2
  · rw [if_neg (fun h => q h.2), if_neg q, gIn_some]
theorem gOut_cut {es : List EdV} (hu : (es.map (·.1)).Nodup) {i : Nat} {x : EdV} (hi : es[i]? = some x) : putE (gOut es) x.2.1 x.1 none = gOut (es.take i ++ es.drop (i + 1)) := by
  funext p y
  apply Option.ext
  intro z
  rw [gOut_some, arcF_cut hu hi]
  unfold putE putG
  by_cases q : y = x.1
  · rw [if_pos q]
    by_cases q2 : p = x.2.1
    · rw [if_pos ⟨q2, q⟩]; simp
    · rw [if_neg (fun h => q2 h.1), gOut_some, q, arcF_mem hu (List.mem_of_getElem? hi)]
      simp; exact fun hh => absurd hh.symm q2
  · rw [if_neg (fun h => q h.2), if_neg q, gOut_some]
theorem gIn_cut {es : List EdV} (hu : (es.map (·.1)).Nodup) {i : Nat} {x : EdV} (hi : es[i]? = some x) : putE (gIn es) x.2.2.1 x.1 none = gIn (es.take i ++ es.drop (i + 1)) := by
  funext p y
  apply Option.ext
  intro z
  rw [gIn_some, arcF_cut hu hi]
  unfold putE putG
  by_cases q : y = x.1
  · rw [if_pos q]
    by_cases q2 : p = x.2.2.1
    · rw [if_pos ⟨q2, q⟩]; simp
    · rw [if_neg (fun h => q2 h.1), gIn_some, q, arcF_mem hu (List.mem_of_getElem? hi)]
      simp; exact fun _ hh => absurd hh.symm q2
  · rw [if_neg (fun h => q h.2), if_neg q, gIn_some]
/-- The arcs of records, as a relation. -/
def AE (es : List EdV) : Int → Int → Prop := fun a b => (a, b) ∈ arcsE es
theorem ae_iff {es : List EdV} {p q : Int} : AE es p q ↔ ∃ x ∈ es, x.2.1 = p ∧ x.2.2.1 = q := by
  unfold AE arcsE
  rw [List.mem_map]
  constructor
  · rintro ⟨x, hx, e⟩; injection e with e1 e2; exact ⟨x, hx, e1, e2⟩
  · rintro ⟨x, hx, rfl, rfl⟩; exact ⟨x, hx, rfl⟩
theorem arcG_out {es : List EdV} (hu : (es.map (·.1)).Nodup) (hok : ∀ x ∈ es, okN x.1) {p q : Int} : ArcG (gOut es) p q ↔ AE es p q := by
  rw [ae_iff]
  constructor
  · rintro ⟨e, -, h⟩
    obtain ⟨x, hx, -, e2⟩ := arcF_some (gOut_some.1 h)
    injection e2 with e3 e4
    exact ⟨x, hx, e3.symm, e4.symm⟩
  · rintro ⟨x, hx, rfl, rfl⟩
    exact ⟨x.1, hok x hx, gOut_some.2 (arcF_mem hu hx)⟩
theorem arcG_in {es : List EdV} (hu : (es.map (·.1)).Nodup) (hok : ∀ x ∈ es, okN x.1) {p q : Int} : ArcG (gIn es) q p ↔ AE es p q := by
  rw [ae_iff]
  constructor
  · rintro ⟨e, -, h⟩
    obtain ⟨x, hx, -, e2⟩ := arcF_some (gIn_some.1 h)
    injection e2 with e3 e4
    exact ⟨x, hx, e3.symm, e4.symm⟩
  · rintro ⟨x, hx, rfl, rfl⟩
    exact ⟨x.1, hok x hx, gIn_some.2 (arcF_mem hu hx)⟩
theorem ae_snoc {es : List EdV} {e u v b : Int} (p q : Int) : AE (es ++ [(e, u, v, b)]) p q ↔ Plus (AE es) u v p q := by
  unfold Plus
  rw [ae_iff, ae_iff]
  constructor
  · rintro ⟨x, hx, h1, h2⟩
    rcases List.mem_append.1 hx with hx | hx
    · exact .inl ⟨x, hx, h1, h2⟩
    · rw [List.mem_singleton.1 hx] at h1 h2; exact .inr ⟨h1.symm, h2.symm⟩
  · rintro (⟨x, hx, h1, h2⟩ | ⟨rfl, rfl⟩)
    · exact ⟨x, List.mem_append.2 (.inl hx), h1, h2⟩
    · exact ⟨_, List.mem_append.2 (.inr (List.mem_singleton.2 rfl)), rfl, rfl⟩
theorem ae_cut {es : List EdV} (hu : (es.map (·.1)).Nodup) {i : Nat} {x : EdV} (hi : es[i]? = some x) (p q : Int) : AE es p q ↔ Plus (AE (es.take i ++ es.drop (i + 1))) x.2.1 x.2.2.1 p q := by
  unfold Plus
  rw [ae_iff, ae_iff]
  constructor
  · rintro ⟨y, hy, h1, h2⟩
    by_cases z : y.1 = x.1
    · rw [uni_eq hu hy (List.mem_of_getElem? hi) z] at h1 h2
      exact .inr ⟨h1.symm, h2.symm⟩
    · exact .inl ⟨y, (cut_mem hu hi y).2 ⟨hy, z⟩, h1, h2⟩
  · rintro (⟨y, hy, h1, h2⟩ | ⟨rfl, rfl⟩)
    · exact ⟨y, ((cut_mem hu hi y).1 hy).1, h1, h2⟩
    · exact ⟨x, List.mem_of_getElem? hi, rfl, rfl⟩
/-- The parts are the components. -/
def SameC (S : List (Part Int)) (V : List Int) (es : List EdV) : Prop := ∀ x y, SP S x y ↔ x ∈ V ∧ y ∈ V ∧ Mut (AE es) x y
/-- A good graph. -/
structure GOk (V : List Int) (es : List EdV) (N : Nat) : Prop where
  rise : V.Pairwise (· < ·)
  okV : ∀ x ∈ V, okN x
  okE : ∀ x ∈ es, okN x.1
  ends : okArcs V (arcsE es)
  uni : (es.map (·.1)).Nodup
  lenV : V.length ≤ N
  lenE : es.length ≤ N
theorem GOk.end1 {V : List Int} {es : List EdV} {N : Nat} (h : GOk V es N) {x : EdV} (hx : x ∈ es) : x.2.1 ∈ V ∧ x.2.2.1 ∈ V := h.ends (x.2.1, x.2.2.1) (List.mem_map.2 ⟨x, hx, rfl⟩)
theorem GOk.nodup {V : List Int} {es : List EdV} {N : Nat} (h : GOk V es N) : V.Nodup := h.rise.imp (fun {a b} hh => by omega)
theorem GOk.mono {V : List Int} {es : List EdV} {N M : Nat} (h : GOk V es N) (hm : N ≤ M) : GOk V es M := ⟨h.rise, h.okV, h.okE, h.ends, h.uni, Nat.le_trans h.lenV hm, Nat.le_trans h.lenE hm⟩
theorem GOk.ae {V : List Int} {es : List EdV} {N : Nat} (h : GOk V es N) {p q : Int} (hp : AE es p q) : p ∈ V ∧ q ∈ V := h.ends (p, q) hp
theorem mut_same {A B : Int → Int → Prop} (h : ∀ p q, A p q ↔ B p q) {x y : Int} : Mut A x y ↔ Mut B x y := by
  unfold Mut; rw [RI.same h, RI.same h]
/-- One arc more between vertices of one component. -/
theorem sameC_plus_same {S : List (Part Int)} {V : List Int} {es : List EdV} {e u v b : Int} (h : SameC S V es) (hs : SP S u v) : SameC S V (es ++ [(e, u, v, b)]) := fun x y => by
  rw [h x y, mut_same ae_snoc, plus_same ((h u v).1 hs).2.2]
/-- What joinRings finds. -/
theorem sameC_plus {w w' : World} {c p m ma ml me : Nat} {lk : Int} {S : List (Part Int)} {V : List Int} {es : List EdV} {e u v b : Int} {N : Nat} (h : SameC S V es) (hG : GOk V (es ++ [(e, u, v, b)]) N) (hR : RAns w c p m ma ml me lk (gOut (es ++ [(e, u, v, b)])) (gIn (es ++ [(e, u, v, b)])) V S u v w') :
    ∃ (S' : List (Part Int)) (k : Nat), RAft w c p m ma ml me (lk + (k : Int)) S S' w' ∧ SameC S' V (es ++ [(e, u, v, b)]) ∧ k ≤ 2 * V.length := by
  obtain ⟨zs, ⟨f1, f2, f3⟩, hh⟩ := hR
  have hz : ∀ z, z ∈ zs ↔ RI (Plus (AE es) u v) v z := fun z => by
    rw [f1 z]
    refine RI.same (fun p q => ?_)
    rw [← ae_snoc (e := e) (b := b), ← arcG_out hG.uni hG.okE]
    exact ⟨fun h => h.1, fun h => ⟨h, rfl⟩⟩
  have lz : zs.length ≤ V.length := len_in f2 (fun z hz => (f3 z hz).1)
  rcases hh with ⟨hu, hA⟩ | ⟨hu, rs, S', ⟨r1, r2, r3⟩, hA, hS⟩
  · refine ⟨S, zs.length, hA, fun x y => ?_, by omega⟩
    rw [h x y, mut_same ae_snoc, plus_none (fun hr => hu ((hz u).2 (plus_from.2 hr)))]
  · have hvu : RI (AE es) v u := plus_from.1 ((hz u).1 hu)
    have lr : rs.length ≤ V.length := len_in r2 (fun z hz => (r3 z hz).1)
    have hr : ∀ z, z ∈ rs ↔ OnR (AE es) u v z := fun z => by
      rw [r1 z, ← ring_iff hvu]
      refine RI.same (fun p q => ?_)
      rw [← hz q, ← ae_snoc (e := e) (b := b) q p, ← arcG_in hG.uni hG.okE]
      show ArcG _ p q ∧ (memF zs q).isSome = true ↔ _
      rw [memF_some, decide_eq_true_iff]
    refine ⟨S', zs.length + rs.length, by rw [Int.natCast_add, ← Int.add_assoc]; exact hA, fun x y => ?_, by omega⟩
    have hj : ∀ x, (∃ k ∈ rs, SP S x k) ↔ x ∈ V ∧ OnR (AE es) u v x := fun x => by
      constructor
      · rintro ⟨k, hk, hs⟩
        obtain ⟨s1, s2, s3⟩ := (h x k).1 hs
        exact ⟨s1, ((hr k).1 hk).mut s3.symm⟩
      · rintro ⟨s1, s2⟩
        have := (hr x).2 s2
        exact ⟨x, this, (h x x).2 ⟨s1, s1, Mut.refl _ _⟩⟩
    rw [hS x y]
    unfold JP
    rw [hj, hj, h x y, mut_same ae_snoc, plus_mut]
    constructor
    · rintro (⟨a1, a2, a3⟩ | ⟨⟨a1, a2⟩, a3, a4⟩)
      · exact ⟨a1, a2, .inl a3⟩
      · exact ⟨a1, a3, .inr ⟨a2, a4⟩⟩
    · rintro ⟨a1, a2, a3 | ⟨a3, a4⟩⟩
      · exact .inl ⟨a1, a2, a3⟩
      · exact .inr ⟨⟨a1, a3⟩, a2, a4⟩
/-- One arc less, from a vertex to itself or between two components. -/
theorem sameC_less {S : List (Part Int)} {V : List Int} {es : List EdV} {i : Nat} {x : EdV} (h : SameC S V es) (hu : (es.map (·.1)).Nodup) (hi : es[i]? = some x) (hV : x.2.1 ∈ V ∧ x.2.2.1 ∈ V) (hs : x.2.1 = x.2.2.1 ∨ ¬ SP S x.2.1 x.2.2.1) : SameC S V (es.take i ++ es.drop (i + 1)) := fun p q => by
  rw [h p q, mut_same (ae_cut hu hi)]
  rcases hs with e | hs
  · rw [← e, plus_same (Mut.refl _ _)]
  · rw [plus_none]
    intro hr
    refine hs ((h _ _).2 ⟨hV.1, hV.2, RI.arc ?_, ?_⟩)
    · exact (ae_cut hu hi _ _).2 (.inr ⟨rfl, rfl⟩)
    · exact hr.mono (fun p q hh => (ae_cut hu hi p q).2 (.inl hh))
/-- One arc less within a component: partAnew. -/
theorem sameC_anew {S S' : List (Part Int)} {V : List Int} {es : List EdV} {i N : Nat} {x : EdV} {z : Part Int} (h : SameC S V es) (hG : GOk V es N) (hi : es[i]? = some x) (hF : Fam ltN okN S) (hz : z ∈ S) (hx : x.2.1 ∈ z.ks) (hs : SP S x.2.1 x.2.2.1) (hS : ∀ a b, SP S' a b ↔ (SP S a b ∧ a ∉ z.ks) ∨ InMut (gOut (es.take i ++ es.drop (i + 1))) S z.ks a b) : SameC S' V (es.take i ++ es.drop (i + 1)) := by
  have hu := hG.uni
  have hab := ((h _ _).1 hs).2.2
  have hm : ∀ p q, AE (es.take i ++ es.drop (i + 1)) p q → AE es p q := fun p q hh => (ae_cut hu hi p q).2 (.inl hh)
  have hxV := ((h _ _).1 hs).1
  have hC : ∀ p, p ∈ z.ks ↔ p ∈ V ∧ Mut (AE es) p x.2.1 := fun p => by
    constructor
    · intro hp
      obtain ⟨s1, s2, s3⟩ := (h p x.2.1).1 ⟨z, hz, hp, hx⟩
      exact ⟨s1, s3⟩
    · rintro ⟨s1, s2⟩
      exact sp_in hF hz hx ((h x.2.1 p).2 ⟨hxV, s1, s2.symm⟩)
  have hok2 : ∀ y ∈ es.take i ++ es.drop (i + 1), okN y.1 := fun y hy => hG.okE y ((cut_mem hu hi y).1 hy).1
  have hin : ∀ p q, (p ∈ z.ks ∧ ArcG (gOut (es.take i ++ es.drop (i + 1))) p q ∧ SP S p q) ↔ Within (AE (es.take i ++ es.drop (i + 1))) (fun p => Mut (AE es) p x.2.1) p q := fun p q => by
    rw [arcG_out (cut_uni hu i) hok2]
    constructor
    · rintro ⟨h1, h2, h3⟩
      have h4 := ((hC p).1 h1).2
      exact ⟨h2, h4, (((h p q).1 h3).2.2).symm.trans h4⟩
    · rintro ⟨h1, h2, h3⟩
      obtain ⟨v1, v2⟩ := hG.ae (hm p q h1)
      exact ⟨(hC p).2 ⟨v1, h2⟩, h1, (h p q).2 ⟨v1, v2, h2.trans h3.symm⟩⟩
  intro p q
  rw [hS p q]
  unfold InMut
  rw [mut_same hin]
  by_cases hp : Mut (AE es) p x.2.1
  · have hw := less_within (A := AE es) (B := AE (es.take i ++ es.drop (i + 1))) (C := fun p => Mut (AE es) p x.2.1) (a := x.2.1) (x := p) (y := q) hm (fun _ => Iff.rfl) hp
    rw [hw, hC, hC]
    constructor
    · rintro (⟨h1, h2⟩ | ⟨⟨h1, -⟩, ⟨h2, h3⟩, h4⟩)
      · exact absurd ⟨((h p q).1 h1).1, hp⟩ h2
      · exact ⟨h1, h2, h3, h4⟩
    · rintro ⟨h1, h2, h3, h4⟩
      exact .inr ⟨⟨h1, hp⟩, ⟨h2, h3⟩, h4⟩
  · rw [less_other (ae_cut hu hi) hab hp, h p q, hC, hC]
    constructor
    · rintro (⟨h1, -⟩ | ⟨⟨-, h1⟩, -⟩)
      · exact h1
      · exact absurd h1 hp
    · intro h1
      exact .inl ⟨h1, fun h2 => hp h2.2⟩
/-- A vertex more, without arcs. -/
theorem alone {V : List Int} {es : List EdV} {N : Nat} (_hG : GOk V es N) {v y : Int} (hv : ∀ x ∈ es, x.2.1 ≠ v) (h : RI (AE es) v y) : y = v := by
  refine (h.closed (C := fun q => q = v) (fun p q hp hq => ?_) rfl)
  obtain ⟨x, hx, e1, -⟩ := ae_iff.1 hq
  exact absurd (e1.trans hp) (hv x hx)
theorem sameC_add {S S' : List (Part Int)} {V V' : List Int} {es : List EdV} {N : Nat} {v : Int} (h : SameC S V es) (hG : GOk V es N) (hv : v ∉ V) (hV : ∀ x, x ∈ V' ↔ x ∈ V ∨ x = v) (hS : ∀ x y, SP S' x y ↔ SP S x y ∨ (x = v ∧ y = v)) : SameC S' V' es := fun x y => by
  have hno : ∀ z ∈ es, z.2.1 ≠ v := fun z hz e => hv (by rw [← e]; exact (hG.end1 hz).1)
  rw [hS, hV, hV, h x y]
  constructor
  · rintro (⟨h1, h2, h3⟩ | ⟨rfl, rfl⟩)
    · exact ⟨.inl h1, .inl h2, h3⟩
    · exact ⟨.inr rfl, .inr rfl, Mut.refl _ _⟩
  · rintro ⟨h1, h2, h3⟩
    rcases h1 with h1 | rfl
    · rcases h2 with h2 | rfl
      · exact .inl ⟨h1, h2, h3⟩
      · exact .inr ⟨alone hG hno h3.2, rfl⟩
    · exact .inr ⟨rfl, alone hG hno h3.1⟩
theorem sameC_drop {S S' : List (Part Int)} {V V' : List Int} {es : List EdV} {N : Nat} {v : Int} (h : SameC S V es) (_hG : GOk V es N) (_hno : ∀ z ∈ es, z.2.1 ≠ v) (hV : ∀ x, x ∈ V' ↔ x ∈ V ∧ x ≠ v) (hS : ∀ x y, SP S' x y ↔ SP S x y ∧ x ≠ v ∧ y ≠ v) : SameC S' V' es := fun x y => by
  rw [hS, hV, hV, h x y]
  constructor
  · rintro ⟨⟨h1, h2, h3⟩, h4, h5⟩
    exact ⟨⟨h1, h4⟩, ⟨h2, h5⟩, h3⟩
  · rintro ⟨⟨h1, h4⟩, ⟨h2, h5⟩, h3⟩
    exact ⟨⟨h1, h2, h3⟩, h4, h5⟩
end

section
open Go.RowKit Go.Maps T9
structure KRaw (L : Nat → Nat) (w : World) (c p m ma ml me : Nat) (lk : Int) (S : List (Part Int)) (Af : Int → Option (Int × Int)) (g1 g2 : Int → Int → Option Int) (N : Nat) : Prop where
  box : w.heap[c]? = some (oC p ma ml me lk)
  at_ : PAtN w p m S
  arcs : ∃ n, MapG edA rdA (0, 0) w ma Af n ∧ n ≤ N
  lv : ∃ f n cn, EndsAt L 1 w ml f n g1 cn ∧ n ≤ N ∧ ∀ ks : List Int, ks.Nodup → (ks.map cn).sum ≤ N
  en : ∃ f n cn, EndsAt L 2 w me f n g2 cn ∧ n ≤ N ∧ ∀ ks : List Int, ks.Nodup → (ks.map cn).sum ≤ N
  lc : L c = 3
  la : L ma = 4
  lp : ∀ b, FootN p m S b → L b = 5
  tot_ : tot S ≤ N
/-- What a call leaves alone: the blocks that are nobody's. -/
structure Ch (L : Nat → Nat) (w : World) (L' : Nat → Nat) (w' : World) : Prop where
  lab_ : ∀ b, b < w.heap.size → L' b = L b
  tur : Turned (fun b => L b ≠ 0) w w'
theorem Ch.refl (L : Nat → Nat) (w : World) : Ch L w L w := ⟨fun _ _ => rfl, Turned.refl _ _⟩
theorem Ch.trans {L L1 L2 : Nat → Nat} {w w1 w2 : World} (h : Ch L w L1 w1) (k : Ch L1 w1 L2 w2) : Ch L w L2 w2 := by
  have hs := h.tur.size
  refine ⟨fun b hb => (k.lab_ b (by omega)).trans (h.lab_ b hb), ⟨k.tur.os.trans h.tur.os, k.tur.tape.trans h.tur.tape, k.tur.output.trans h.tur.output, Nat.le_trans hs k.tur.size, fun b hb hn => ?_⟩⟩
  rw [k.tur.block b (by omega) (by rw [h.lab_ b hb]; exact hn), h.tur.block b hb hn]
theorem Ch.below {L : Nat → Nat} {w w' : World} (h : Below w.heap.size w w') : Ch L w L w' := ⟨fun _ _ => rfl, turned_of_below h⟩
theorem Ch.named (L : Nat → Nat) (w : World) (k : Nat) : Ch L w (lab L w.heap.size k) w := ⟨fun _ hb => if_pos hb, Turned.refl _ _⟩
section
variable {L : Nat → Nat} {w w' : World} {c p m ma ml me : Nat} {lk : Int} {S : List (Part Int)} {Af : Int → Option (Int × Int)} {g1 g2 : Int → Int → Option Int} {N : Nat}
theorem KRaw.kept (h : KRaw L w c p m ma ml me lk S Af g1 g2 N) (hk : ∀ b, b < w.heap.size → L b ≠ 0 → w'.heap[b]? = w.heap[b]?) : KRaw L w' c p m ma ml me lk S Af g1 g2 N := by
  obtain ⟨n, a1, a2⟩ := h.arcs
  obtain ⟨f1, n1, cn1, l1, l2, l3⟩ := h.lv
  obtain ⟨f2, n2, cn2, e1, e2, e3⟩ := h.en
  refine ⟨(hk c (heap_lt h.box) (by rw [h.lc]; omega)).trans h.box, h.at_.kept (fun k hf => hk k (h.at_.lt hf) (by rw [h.lp k hf]; omega)), ⟨n, a1.kept (hk ma a1.lt (by rw [h.la]; omega)), a2⟩, ⟨f1, n1, cn1, l1.kept (fun b hb hl => hk b hb (by rw [hl]; omega)), l2, l3⟩, ⟨f2, n2, cn2, e1.kept (fun b hb hl => hk b hb (by rw [hl]; omega)), e2, e3⟩, h.lc, h.la, h.lp, h.tot_⟩
theorem KRaw.below (h : KRaw L w c p m ma ml me lk S Af g1 g2 N) (hb : Below w.heap.size w w') : KRaw L w' c p m ma ml me lk S Af g1 g2 N := h.kept (fun b hl _ => hb.block b hl)
theorem KRaw.named (h : KRaw L w c p m ma ml me lk S Af g1 g2 N) (k : Nat) : KRaw (lab L w.heap.size k) w c p m ma ml me lk S Af g1 g2 N := by
  obtain ⟨n, a1, a2⟩ := h.arcs
  obtain ⟨f1, n1, cn1, l1, l2, l3⟩ := h.lv
  obtain ⟨f2, n2, cn2, e1, e2, e3⟩ := h.en
  exact ⟨h.box, h.at_, ⟨n, a1, a2⟩, ⟨f1, n1, cn1, l1.named k, l2, l3⟩, ⟨f2, n2, cn2, e1.named k, e2, e3⟩, (if_pos (heap_lt h.box)).trans h.lc, (if_pos a1.lt).trans h.la, fun b hf => (if_pos (h.at_.lt hf)).trans (h.lp b hf), h.tot_⟩
theorem KRaw.mono {M : Nat} (h : KRaw L w c p m ma ml me lk S Af g1 g2 N) (hm : N ≤ M) : KRaw L w c p m ma ml me lk S Af g1 g2 M := by
  obtain ⟨n, a1, a2⟩ := h.arcs
  obtain ⟨f1, n1, cn1, l1, l2, l3⟩ := h.lv
  obtain ⟨f2, n2, cn2, e1, e2, e3⟩ := h.en
  exact ⟨h.box, h.at_, ⟨n, a1, by omega⟩, ⟨f1, n1, cn1, l1, by omega, fun ks hk => Nat.le_trans (l3 ks hk) hm⟩, ⟨f2, n2, cn2, e1, by omega, fun ks hk => Nat.le_trans (e3 ks hk) hm⟩, h.lc, h.la, h.lp, Nat.le_trans h.tot_ hm⟩
theorem KRaw.cfoot (h : KRaw L w c p m ma ml me lk S Af g1 g2 N) : ¬ FootN p m S c := fun hf => by have := h.lp c hf; have := h.lc; omega
theorem sum_le {f g : Int → Nat} (h : ∀ x, f x ≤ g x) : ∀ ks : List Int, (ks.map f).sum ≤ (ks.map g).sum
  | [] => Nat.le_refl _
  | k :: ks => by simp only [List.map_cons, List.sum_cons]; have := sum_le h ks; have := h k; omega
theorem sum_up {cn : Int → Nat} {v : Int} : ∀ {ks : List Int}, ks.Nodup → (ks.map (upE cn v (cn v + 1))).sum ≤ (ks.map cn).sum + 1
  | [], _ => by simp
  | k :: ks, h => by
    obtain ⟨h1, h2⟩ := List.nodup_cons.1 h
    simp only [List.map_cons, List.sum_cons]
    by_cases e : k = v
    · have : (ks.map (upE cn v (cn v + 1))).sum = (ks.map cn).sum := by
        congr 1
        apply List.map_congr_left
        intro x hx
        exact upE_ne _ _ (fun q => h1 (by rw [e, ← q]; exact hx))
      rw [this, e, upE_same]; omega
    · rw [upE_ne _ _ e]
      have := sum_up (cn := cn) (v := v) h2
      omega
/-- One arc into the map of arcs. -/
theorem KRaw.putArc (h : KRaw L w c p m ma ml me lk S Af g1 g2 N) {e : Int} (he : okN e) (hN : N ≤ 100000) (u v : Int) :
    ∃ w', (Instr.mapUpdate 58 (.map (some ma)) (.int .i64 e) (.agg #[.int .i64 u, .int .i64 v])).run Tryz.prog w = .ok () w' ∧ KRaw L w' c p m ma ml me lk S (putG Af e (some (u, v))) g1 g2 (N + 1) ∧ Ch L w L w' := by
  obtain ⟨n, a1, a2⟩ := h.arcs
  obtain ⟨f1, n1, cn1, l1, l2, l3⟩ := h.lv
  obtain ⟨f2, n2, cn2, e1, e2, e3⟩ := h.en
  obtain ⟨w', r, q1, q2⟩ := a1.put kitA (t := 58) (e := 54) Tryz.underlying58 (by unfold maxLen; omega) he (u, v)
  have hk : ∀ b, L b ≠ 4 → w'.heap[b]? = w.heap[b]? := fun b hb => heap_mapT q2 (fun e => hb (by rw [e]; exact h.la))
  refine ⟨w', r, ⟨(hk c (by rw [h.lc]; omega)).trans h.box, h.at_.kept (fun k hf => hk k (by rw [h.lp k hf]; omega)), ⟨_, q1, by split <;> omega⟩, ⟨f1, n1, cn1, l1.kept (fun b _ hl => hk b (by rw [hl]; omega)), by omega, fun ks hk => Nat.le_succ_of_le (l3 ks hk)⟩, ⟨f2, n2, cn2, e1.kept (fun b _ hl => hk b (by rw [hl]; omega)), by omega, fun ks hk => Nat.le_succ_of_le (e3 ks hk)⟩, h.lc, h.la, h.lp, Nat.le_succ_of_le h.tot_⟩, ⟨fun _ _ => rfl, turned_mapT q2 (by rw [h.la]; omega)⟩⟩
/-- One arc out of it. -/
theorem KRaw.delArc (h : KRaw L w c p m ma ml me lk S Af g1 g2 N) {e : Int} (he : okN e) (hs : (Af e).isSome = true) :
    ∃ w', (∀ ty, (Builtin.delete_ #[58, 3] ty #[.map (some ma), .int .i64 e]).run Tryz.prog w = .ok (.tuple #[]) w') ∧ KRaw L w' c p m ma ml me lk S (putG Af e none) g1 g2 N ∧ Ch L w L w' := by
  obtain ⟨n, a1, a2⟩ := h.arcs
  obtain ⟨f1, n1, cn1, l1, l2, l3⟩ := h.lv
  obtain ⟨f2, n2, cn2, e1, e2, e3⟩ := h.en
  obtain ⟨n', rfl⟩ : ∃ n', n = n' + 1 := by
    cases n with
    | zero => rw [a1.zero he] at hs; cases hs
    | succ k => exact ⟨k, rfl⟩
  obtain ⟨w', r, q1, q2⟩ := a1.del (t := 58) (e := 54) Tryz.underlying58 he hs 0
  have hk : ∀ b, L b ≠ 4 → w'.heap[b]? = w.heap[b]? := fun b hb => heap_mapT q2 (fun e => hb (by rw [e]; exact h.la))
  exact ⟨w', fun _ => r, ⟨(hk c (by rw [h.lc]; omega)).trans h.box, h.at_.kept (fun k hf => hk k (by rw [h.lp k hf]; omega)), ⟨_, q1, by omega⟩, ⟨f1, n1, cn1, l1.kept (fun b _ hl => hk b (by rw [hl]; omega)), by omega, l3⟩, ⟨f2, n2, cn2, e1.kept (fun b _ hl => hk b (by rw [hl]; omega)), by omega, e3⟩, h.lc, h.la, h.lp, h.tot_⟩, ⟨fun _ _ => rfl, turned_mapT q2 (by rw [h.la]; omega)⟩⟩
/-- What stays where only the blocks of one label turn. -/
theorem KRaw.putLv (h : KRaw L w c p m ma ml me lk S Af g1 g2 N) {u e v : Int} (hu : okN u) (he : okN e) (hg : g1 u e = none) (hN : N ≤ 100000) :
    Calls Tryz.prog 35 #[.map (some ml), .int .i64 u, .int .i64 e, .int .i64 v] w fun r w' => r = .returned (.tuple #[]) ∧ Hid (∃ L', KRaw L' w' c p m ma ml me lk S Af (putE g1 u e (some v)) g2 (N + 1) ∧ Ch L w L' w') := by
  obtain ⟨n, a1, a2⟩ := h.arcs
  obtain ⟨f1, n1, cn1, l1, l2, l3⟩ := h.lv
  obtain ⟨f2, n2, cn2, e1, e2, e3⟩ := h.en
  have hc1 : cn1 u ≤ N := by have := l3 [u] (by simp); simpa using this
  refine (kputS (o := v) l1 hu he hg (by omega) (by omega)).mono fun r w' hh => ⟨hh.1, ?_⟩
  obtain ⟨f', n', cn', q1, q2, q3, q4⟩ := unhide hh.2
  have hk : ∀ b, b < w.heap.size → L b ≠ 1 → w'.heap[b]? = w.heap[b]? := fun b hb hl => q4.block b hb hl
  refine ⟨_, ⟨(hk c (heap_lt h.box) (by rw [h.lc]; omega)).trans h.box, h.at_.kept (fun k hf => hk k (h.at_.lt hf) (by rw [h.lp k hf]; omega)), ⟨n, a1.kept (hk ma a1.lt (by rw [h.la]; omega)), by omega⟩, ⟨f', n', cn', q1, by omega, fun ks hks => ?_⟩, ⟨f2, n2, cn2, (e1.named 1).kept (fun b hb hl => hk b hb (by rw [lab, if_pos hb] at hl; omega)), by omega, fun ks hk => Nat.le_succ_of_le (e3 ks hk)⟩, (if_pos (heap_lt h.box)).trans h.lc, (if_pos a1.lt).trans h.la, fun b hf => (if_pos (h.at_.lt hf)).trans (h.lp b hf), Nat.le_succ_of_le h.tot_⟩, ⟨fun b hb => if_pos hb, q4.mono (fun b _ hl => by rw [hl]; omega)⟩⟩
  have h1 := sum_le q3 ks
  have h2 := sum_up (cn := cn1) (v := u) hks
  have h3 := l3 ks hks
  omega
theorem KRaw.putEn (h : KRaw L w c p m ma ml me lk S Af g1 g2 N) {u e v : Int} (hv : okN v) (he : okN e) (hg : g2 v e = none) (hN : N ≤ 100000) :
    Calls Tryz.prog 35 #[.map (some me), .int .i64 v, .int .i64 e, .int .i64 u] w fun r w' => r = .returned (.tuple #[]) ∧ Hid (∃ L', KRaw L' w' c p m ma ml me lk S Af g1 (putE g2 v e (some u)) (N + 1) ∧ Ch L w L' w') := by
  obtain ⟨n, a1, a2⟩ := h.arcs
  obtain ⟨f1, n1, cn1, l1, l2, l3⟩ := h.lv
  obtain ⟨f2, n2, cn2, e1, e2, e3⟩ := h.en
  have hc1 : cn2 v ≤ N := by have := e3 [v] (by simp); simpa using this
  refine (kputS (o := u) e1 hv he hg (by omega) (by omega)).mono fun r w' hh => ⟨hh.1, ?_⟩
  obtain ⟨f', n', cn', q1, q2, q3, q4⟩ := unhide hh.2
  have hk : ∀ b, b < w.heap.size → L b ≠ 2 → w'.heap[b]? = w.heap[b]? := fun b hb hl => q4.block b hb hl
  refine ⟨_, ⟨(hk c (heap_lt h.box) (by rw [h.lc]; omega)).trans h.box, h.at_.kept (fun k hf => hk k (h.at_.lt hf) (by rw [h.lp k hf]; omega)), ⟨n, a1.kept (hk ma a1.lt (by rw [h.la]; omega)), by omega⟩, ⟨f1, n1, cn1, (l1.named 2).kept (fun b hb hl => hk b hb (by rw [lab, if_pos hb] at hl; omega)), by omega, fun ks hk => Nat.le_succ_of_le (l3 ks hk)⟩, ⟨f', n', cn', q1, by omega, fun ks hks => ?_⟩, (if_pos (heap_lt h.box)).trans h.lc, (if_pos a1.lt).trans h.la, fun b hf => (if_pos (h.at_.lt hf)).trans (h.lp b hf), Nat.le_succ_of_le h.tot_⟩, ⟨fun b hb => if_pos hb, q4.mono (fun b _ hl => by rw [hl]; omega)⟩⟩
  have h1 := sum_le q3 ks
  have h2 := sum_up (cn := cn2) (v := v) hks
  have h3 := e3 ks hks
  omega
theorem KRaw.dropLv (h : KRaw L w c p m ma ml me lk S Af g1 g2 N) {u e : Int} (hu : okN u) (he : okN e) (hg : (g1 u e).isSome = true) (hN : N ≤ 100000) :
    Calls Tryz.prog 37 #[.map (some ml), .int .i64 u, .int .i64 e] w fun r w' => r = .returned (.tuple #[]) ∧ Hid (KRaw L w' c p m ma ml me lk S Af (putE g1 u e none) g2 N ∧ Ch L w L w') := by
  obtain ⟨n, a1, a2⟩ := h.arcs
  obtain ⟨f1, n1, cn1, l1, l2, l3⟩ := h.lv
  obtain ⟨f2, n2, cn2, e1, e2, e3⟩ := h.en
  have hc1 : cn1 u ≤ N := by have := l3 [u] (by simp); simpa using this
  refine (kdropS l1 hu he hg (by omega)).mono fun r w' hh => ⟨hh.1, ?_⟩
  obtain ⟨f', n', cn', q1, q2, q3, q4⟩ := unhide hh.2
  have hk : ∀ b, b < w.heap.size → L b ≠ 1 → w'.heap[b]? = w.heap[b]? := fun b hb hl => q4.block b hb hl
  exact ⟨⟨(hk c (heap_lt h.box) (by rw [h.lc]; omega)).trans h.box, h.at_.kept (fun k hf => hk k (h.at_.lt hf) (by rw [h.lp k hf]; omega)), ⟨n, a1.kept (hk ma a1.lt (by rw [h.la]; omega)), a2⟩, ⟨f', n', cn', q1, by omega, fun ks hks => Nat.le_trans (sum_le q3 ks) (l3 ks hks)⟩, ⟨f2, n2, cn2, e1.kept (fun b hb hl => hk b hb (by omega)), e2, e3⟩, h.lc, h.la, h.lp, h.tot_⟩, ⟨fun b hb => rfl, q4.mono (fun b _ hl => by rw [hl]; omega)⟩⟩
theorem KRaw.dropEn (h : KRaw L w c p m ma ml me lk S Af g1 g2 N) {v e : Int} (hv : okN v) (he : okN e) (hg : (g2 v e).isSome = true) (hN : N ≤ 100000) :
    Calls Tryz.prog 37 #[.map (some me), .int .i64 v, .int .i64 e] w fun r w' => r = .returned (.tuple #[]) ∧ Hid (KRaw L w' c p m ma ml me lk S Af g1 (putE g2 v e none) N ∧ Ch L w L w') := by
  obtain ⟨n, a1, a2⟩ := h.arcs
  obtain ⟨f1, n1, cn1, l1, l2, l3⟩ := h.lv
  obtain ⟨f2, n2, cn2, e1, e2, e3⟩ := h.en
  have hc1 : cn2 v ≤ N := by have := e3 [v] (by simp); simpa using this
  refine (kdropS e1 hv he hg (by omega)).mono fun r w' hh => ⟨hh.1, ?_⟩
  obtain ⟨f', n', cn', q1, q2, q3, q4⟩ := unhide hh.2
  have hk : ∀ b, b < w.heap.size → L b ≠ 2 → w'.heap[b]? = w.heap[b]? := fun b hb hl => q4.block b hb hl
  exact ⟨⟨(hk c (heap_lt h.box) (by rw [h.lc]; omega)).trans h.box, h.at_.kept (fun k hf => hk k (h.at_.lt hf) (by rw [h.lp k hf]; omega)), ⟨n, a1.kept (hk ma a1.lt (by rw [h.la]; omega)), a2⟩, ⟨f1, n1, cn1, l1.kept (fun b hb hl => hk b hb (by omega)), l2, l3⟩, ⟨f', n', cn', q1, by omega, fun ks hks => Nat.le_trans (sum_le q3 ks) (e3 ks hks)⟩, h.lc, h.la, h.lp, h.tot_⟩, ⟨fun b hb => rfl, q4.mono (fun b _ hl => by rw [hl]; omega)⟩⟩
/-- The count anew. -/
theorem KRaw.count (h : KRaw L w c p m ma ml me lk S Af g1 g2 N) (x : Int) : KRaw L (w.setCell ⟨c, 4, none⟩ (.int .i64 x)) c p m ma ml me x S Af g1 g2 N ∧ Ch L w L (w.setCell ⟨c, 4, none⟩ (.int .i64 x)) := by
  obtain ⟨n, a1, a2⟩ := h.arcs
  obtain ⟨f1, n1, cn1, l1, l2, l3⟩ := h.lv
  obtain ⟨f2, n2, cn2, e1, e2, e3⟩ := h.en
  have hk : ∀ b, L b ≠ 3 → (w.setCell ⟨c, 4, none⟩ (.int .i64 x)).heap[b]? = w.heap[b]? := fun b hb => heap_setCell_other _ _ _ _ (fun e => hb (by have e2 : b = c := e; rw [e2]; exact h.lc))
  exact ⟨⟨oC_look h.box x, h.at_.kept (fun k hf => hk k (by rw [h.lp k hf]; omega)), ⟨n, a1.kept (hk ma (by rw [h.la]; omega)), a2⟩, ⟨f1, n1, cn1, l1.kept (fun b hb hl => hk b (by omega)), l2, l3⟩, ⟨f2, n2, cn2, e1.kept (fun b hb hl => hk b (by omega)), e2, e3⟩, h.lc, h.la, h.lp, h.tot_⟩, ⟨fun _ _ => rfl, turned_setCell w ⟨c, 4, none⟩ _ (show L c ≠ 0 by rw [h.lc]; omega)⟩⟩
/-- Other parts, another count. -/
theorem KRaw.aft {lk' : Int} {S' : List (Part Int)} {M : Nat} (h : KRaw L w c p m ma ml me lk S Af g1 g2 N) (box : w'.heap[c]? = some (oC p ma ml me lk')) (at_ : PAtN w' p m S') (tur : Turned (fun b => b = c ∨ FootN p m S b) w w') (foot : ∀ j, FootN p m S' j → FootN p m S j ∨ w.heap.size ≤ j) (htot : tot S' ≤ M) (hM : N ≤ M) :
    ∃ L', KRaw L' w' c p m ma ml me lk' S' Af g1 g2 M ∧ Ch L w L' w' := by
  have h := h.mono hM
  obtain ⟨n, a1, a2⟩ := h.arcs
  obtain ⟨f1, n1, cn1, l1, l2, l3⟩ := h.lv
  obtain ⟨f2, n2, cn2, e1, e2, e3⟩ := h.en
  have hk : ∀ b, b < w.heap.size → L b ≠ 3 → L b ≠ 5 → w'.heap[b]? = w.heap[b]? := fun b hb h3 h5 => tur.block b hb (fun e => e.elim (fun e => h3 (by rw [e]; exact h.lc)) (fun e => h5 (h.lp b e)))
  refine ⟨lab L w.heap.size 5, ⟨box, at_, ⟨n, a1.kept (hk ma a1.lt (by rw [h.la]; omega) (by rw [h.la]; omega)), a2⟩, ⟨f1, n1, cn1, (l1.named 5).kept (fun b hb hl => hk b hb (by rw [lab, if_pos hb] at hl; omega) (by rw [lab, if_pos hb] at hl; omega)), l2, l3⟩, ⟨f2, n2, cn2, (e1.named 5).kept (fun b hb hl => hk b hb (by rw [lab, if_pos hb] at hl; omega) (by rw [lab, if_pos hb] at hl; omega)), e2, e3⟩, (if_pos (heap_lt h.box)).trans h.lc, (if_pos a1.lt).trans h.la, fun b hf => ?_, htot⟩, ⟨fun b hb => if_pos hb, tur.mono (fun b _ e => e.elim (fun e => by rw [e, h.lc]; omega) (fun e => by rw [h.lp b e]; omega))⟩⟩
  rcases foot b hf with q | q
  · exact (if_pos (h.at_.lt q)).trans (h.lp b q)
  · exact if_neg (by omega)
end
/-- A Cond over a graph. -/
def KSt (L : Nat → Nat) (w : World) (c p m ma ml me : Nat) (lk : Int) (V : List Int) (es : List EdV) (N : Nat) : Prop := ∃ S, KRaw L w c p m ma ml me lk S (arcF es) (gOut es) (gIn es) N ∧ SameC S V es
/-- One behind a call. -/
def KGo (L : Nat → Nat) (w : World) (c p m ma ml me : Nat) (lk : Int) (V : List Int) (es : List EdV) (N : Nat) (w' : World) : Prop := ∃ L', KSt L' w' c p m ma ml me lk V es N ∧ Ch L w L' w'
theorem KSt.below {L : Nat → Nat} {w w' : World} {c p m ma ml me : Nat} {lk : Int} {V : List Int} {es : List EdV} {N : Nat} (h : KSt L w c p m ma ml me lk V es N) (hb : Below w.heap.size w w') : KSt L w' c p m ma ml me lk V es N := by
  obtain ⟨S, h1, h2⟩ := h
  exact ⟨S, h1.below hb, h2⟩
theorem KSt.go {L : Nat → Nat} {w w' : World} {c p m ma ml me : Nat} {lk : Int} {V : List Int} {es : List EdV} {N : Nat} (h : KSt L w c p m ma ml me lk V es N) (hb : Below w.heap.size w w') : KGo L w c p m ma ml me lk V es N w' := ⟨L, h.below hb, Ch.below hb⟩
end

section
open Go.RowKit Go.Maps T9
section
variable {L : Nat → Nat} {w : World} {c p m ma ml me : Nat} {lk : Int} {V : List Int} {es : List EdV} {N : Nat}
theorem SameC.self {S : List (Part Int)} (h : SameC S V es) {v : Int} : SP S v v ↔ v ∈ V := by
  rw [h v v]; exact ⟨fun h => h.1, fun h => ⟨h, h, Mut.refl _ _⟩⟩
theorem SameC.notin {S : List (Part Int)} (h : SameC S V es) {v : Int} (hv : v ∉ V) : ∀ z ∈ S, v ∉ z.ks := fun z hz hk => hv (h.self.1 ⟨z, hz, hk, hk⟩)
theorem kAddVIn (h : KSt L w c p m ma ml me lk V es N) {v : Int} (hv : v ∈ V) : Calls Tryz.prog 13 #[.pointer (some ⟨c, 0, none⟩), .int .i64 v] w fun e w' => e = .returned (.bool false) ∧ w' = w := by
  obtain ⟨S, h1, h2⟩ := h
  obtain ⟨x, hx, hk, -⟩ := h2.self.2 hv
  refine (kAddVertexF (Q := fun t w' => t = false ∧ w' = w) h1.box ((addInN v w h1.at_ hx hk).mono fun e w' hh => ⟨false, hh.1, rfl, hh.2⟩)).mono ?_
  rintro e w' ⟨t, rfl, hq⟩
  obtain ⟨rfl, rfl⟩ := unhide hq
  exact ⟨rfl, rfl⟩
theorem kAddVNew (h : KSt L w c p m ma ml me lk V es N) (hG : GOk V es N) (hN : N ≤ 100000) {v : Int} (hok : okN v) (hv : v ∉ V) {V' : List Int} (hV : ∀ x, x ∈ V' ↔ x ∈ V ∨ x = v) : Calls Tryz.prog 13 #[.pointer (some ⟨c, 0, none⟩), .int .i64 v] w fun e w' => e = .returned (.bool true) ∧ Hid (KGo L w c p m ma ml me lk V' es (N + 1) w') := by
  obtain ⟨S, h1, h2⟩ := h
  have ht := h1.tot_
  refine (kAddVertexF (Q := fun t w' => t = true ∧ KGo L w c p m ma ml me lk V' es (N + 1) w') h1.box ((addN v w h1.at_ hok (h2.notin hv) (by omega)).mono fun e w' hh => ⟨true, hh.1, rfl, ?_⟩)).mono ?_
  · obtain ⟨x, q1, q2, q3, q4⟩ := unhide hh.2
    have hc := h1.cfoot
    obtain ⟨L', k1, k2⟩ := h1.aft (lk' := lk) (S' := S ++ [x]) (M := N + 1) ((q3.block c (heap_lt h1.box) hc).trans h1.box) q2 (q3.mono (fun k _ e => .inr e)) q4 (by rw [tot_append, tot_one, q1]; simp; omega) (by omega)
    refine ⟨L', ⟨_, k1, sameC_add h2 hG hv hV (fun a b => ?_)⟩, k2⟩
    constructor
    · rintro ⟨z, hz, z1, z2⟩
      rcases List.mem_append.1 hz with hz | hz
      · exact .inl ⟨z, hz, z1, z2⟩
      · rw [List.mem_singleton.1 hz, q1] at z1 z2
        exact .inr ⟨List.mem_singleton.1 z1, List.mem_singleton.1 z2⟩
    · rintro (⟨z, hz, z1, z2⟩ | ⟨rfl, rfl⟩)
      · exact ⟨z, List.mem_append.2 (.inl hz), z1, z2⟩
      · exact ⟨x, List.mem_append.2 (.inr (List.mem_singleton.2 rfl)), by rw [q1]; simp, by rw [q1]; simp⟩
  · rintro e w' ⟨t, rfl, hq⟩
    obtain ⟨rfl, hk⟩ := unhide hq
    exact ⟨rfl, hk⟩
end
theorem MapG.some_key {X : Type} {ev : X → Value} {ed : X → DataW Unit} {R : Value → Option (DataW Unit × List MemPlace)} {x0 : X} {w : World} {m n : Nat} {f : Int → Option X} {t e : TypeId} (h : MapG ed R x0 w m f n) (kk : ElKit X ev ed R) (ht : Tryz.prog.underlying t = some (.map 3 e)) (hn : 0 < n) : ∃ k x, okN k ∧ f k = some x := by
  obtain ⟨w', -, hr, -⟩ := h.range ht
  rcases hr.next kk 0 with ⟨h0, -⟩ | ⟨k, x, -, -, h1, -, h2, -⟩
  · omega
  · exact ⟨k, x, h1, h2⟩
theorem EndsAt.has {L : Nat → Nat} {a m n : Nat} {w : World} {f : Int → Option Nat} {g : Int → Int → Option Int} {cn : Int → Nat} (h : EndsAt L a w m f n g cn) {v : Int} (hv : okN v) : 0 < cntOf f cn v ↔ ∃ e x, okN e ∧ g v e = some x := by
  rw [h.cnt hv]
  cases hf : f v with
  | none => exact ⟨fun q => (by cases q), fun ⟨e, x, h1, h2⟩ => (by rw [h.non v hv hf e h1] at h2; cases h2)⟩
  | some b => exact ⟨fun _ => (h.inn v b hv hf).some_key kitI (t := 88) (e := 3) Tryz.underlying88 (h.pos v b hv hf), fun _ => rfl⟩
theorem gOut_has {V : List Int} {es : List EdV} {N : Nat} (hG : GOk V es N) {v : Int} : (∃ e x, okN e ∧ gOut es v e = some x) ↔ ∃ y ∈ es, y.2.1 = v := by
  constructor
  · rintro ⟨e, x, -, h⟩
    obtain ⟨y, hy, -, e2⟩ := arcF_some (gOut_some.1 h)
    injection e2 with e3 e4
    exact ⟨y, hy, e3.symm⟩
  · rintro ⟨y, hy, rfl⟩
    exact ⟨y.1, y.2.2.1, hG.okE y hy, gOut_some.2 (arcF_mem hG.uni hy)⟩
theorem gIn_has {V : List Int} {es : List EdV} {N : Nat} (hG : GOk V es N) {v : Int} : (∃ e x, okN e ∧ gIn es v e = some x) ↔ ∃ y ∈ es, y.2.2.1 = v := by
  constructor
  · rintro ⟨e, x, -, h⟩
    obtain ⟨y, hy, -, e2⟩ := arcF_some (gIn_some.1 h)
    injection e2 with e3 e4
    exact ⟨y, hy, e4.symm⟩
  · rintro ⟨y, hy, rfl⟩
    exact ⟨y.1, y.2.1, hG.okE y hy, gIn_some.2 (arcF_mem hG.uni hy)⟩
/-- An arc leaves or enters v. -/
def Bound (es : List EdV) (v : Int) : Prop := ∃ y ∈ es, y.2.1 = v ∨ y.2.2.1 = v
section
variable {L : Nat → Nat} {w : World} {c p m ma ml me : Nat} {lk : Int} {V : List Int} {es : List EdV} {N : Nat}
set_option maxHeartbeats 1000000 in
set_option maxRecDepth 100000 in
theorem kDropVBound (h : KSt L w c p m ma ml me lk V es N) (hG : GOk V es N) {v : Int} (hok : okN v) (hv : Bound es v) : Calls Tryz.prog 26 #[.pointer (some ⟨c, 0, none⟩), .int .i64 v] w fun e w' => e = .returned (.bool false) ∧ w' = w := by
  obtain ⟨S, h1, h2⟩ := h
  obtain ⟨f1, n1, cn1, l1, -, -⟩ := h1.lv
  obtain ⟨f2, n2, cn2, e1, -, -⟩ := h1.en
  obtain ⟨-, -, c3, c4, -, -⟩ := cellsC h1.box
  have k1 := l1.look hok
  have k2 := l1.len hok 3
  have k3 := e1.look hok
  have k4 := e1.len hok 3
  have q1 := (l1.has hok).trans (gOut_has hG)
  have q2 := (e1.has hok).trans (gIn_has hG)
  generalize cntOf f1 cn1 v = d1 at *
  generalize cntOf f2 cn2 v = d2 at *
  generalize f1 v = fv1 at *
  generalize f2 v = fv2 at *
  by_cases hd : 0 < d1
  · have z1 : (0 : Int) < (d1 : Int) := by omega
    clear h1 h2 l1 e1 q1 q2 hd hv hG hok k3 k4 c4
    go_enter Tryz.func26, Tryz.ntmps26
    go_wp2_with fail
    go_ret
    exact ⟨rfl, rfl⟩
  · have z1 : ¬ (0 : Int) < (d1 : Int) := by omega
    have z2 : (0 : Int) < (d2 : Int) := by
      obtain ⟨y, hy, e | e⟩ := hv
      · exact absurd (q1.2 ⟨y, hy, e⟩) hd
      · have := q2.2 ⟨y, hy, e⟩; omega
    clear h1 h2 l1 e1 q1 q2 hd hv hG hok
    go_enter Tryz.func26, Tryz.ntmps26
    go_wp2_with fail
    go_ret
    exact ⟨rfl, rfl⟩
set_option maxHeartbeats 1000000 in
set_option maxRecDepth 100000 in
theorem kDropVF (h : KSt L w c p m ma ml me lk V es N) (hG : GOk V es N) {v : Int} (hok : okN v) (hv : ¬ Bound es v) {t : Bool} {Q : World → Prop} (hC : Calls Tryz.prog 51 #[.pointer (some ⟨p, 0, none⟩), .int .i64 v] w fun e w' => e = .returned (.bool t) ∧ Hid (Q w')) : Calls Tryz.prog 26 #[.pointer (some ⟨c, 0, none⟩), .int .i64 v] w fun e w' => e = .returned (.bool t) ∧ Hid (Q w') := by
  obtain ⟨S, h1, h2⟩ := h
  obtain ⟨f1, n1, cn1, l1, -, -⟩ := h1.lv
  obtain ⟨f2, n2, cn2, e1, -, -⟩ := h1.en
  obtain ⟨c1, -, c3, c4, -, -⟩ := cellsC h1.box
  have k1 := l1.look hok
  have k2 := l1.len hok 3
  have k3 := e1.look hok
  have k4 := e1.len hok 3
  have q1 := (l1.has hok).trans (gOut_has hG)
  have q2 := (e1.has hok).trans (gIn_has hG)
  generalize cntOf f1 cn1 v = d1 at *
  generalize cntOf f2 cn2 v = d2 at *
  generalize f1 v = fv1 at *
  generalize f2 v = fv2 at *
  have z1 : ¬ (0 : Int) < (d1 : Int) := fun z => by
    obtain ⟨y, hy, e⟩ := q1.1 (by omega)
    exact hv ⟨y, hy, .inl e⟩
  have z2 : ¬ (0 : Int) < (d2 : Int) := fun z => by
    obtain ⟨y, hy, e⟩ := q2.1 (by omega)
    exact hv ⟨y, hy, .inr e⟩
  have C := hide hC
  clear h1 h2 l1 e1 q1 q2 hv hG hok hC
  go_enter Tryz.func26, Tryz.ntmps26
  go_wp2_with fail
  refine (unhide C).mono ?_
  rintro e w' ⟨rfl, HQ⟩
  clear C c1 c3 c4 k1 k2 k3 k4
  go_wp2_with fail
  go_ret
  exact ⟨rfl, HQ⟩
theorem kDropVNo (h : KSt L w c p m ma ml me lk V es N) (hG : GOk V es N) {v : Int} (hok : okN v) (hv : v ∉ V) : Calls Tryz.prog 26 #[.pointer (some ⟨c, 0, none⟩), .int .i64 v] w fun e w' => e = .returned (.bool false) ∧ Hid (w' = w) := by
  have hb : ¬ Bound es v := fun ⟨y, hy, e⟩ => hv (e.elim (fun e => by rw [← e]; exact (hG.end1 hy).1) (fun e => by rw [← e]; exact (hG.end1 hy).2))
  obtain ⟨S, h1, h2⟩ := h
  exact kDropVF ⟨S, h1, h2⟩ hG hok hb (Q := fun w' => w' = w) ((dropNoN v w h1.at_ hok (h2.notin hv)).mono fun e w' hh => ⟨hh.1, hh.2⟩)
theorem kDropVYes (h : KSt L w c p m ma ml me lk V es N) (hG : GOk V es N) (hN : N ≤ 100000) {v : Int} (hok : okN v) (hv : v ∈ V) (hb : ¬ Bound es v) {V' : List Int} (hV : ∀ x, x ∈ V' ↔ x ∈ V ∧ x ≠ v) : Calls Tryz.prog 26 #[.pointer (some ⟨c, 0, none⟩), .int .i64 v] w fun e w' => e = .returned (.bool true) ∧ Hid (KGo L w c p m ma ml me lk V' es N w') := by
  obtain ⟨S, h1, h2⟩ := h
  obtain ⟨x, hx, hk, -⟩ := h2.self.2 hv
  have ht := h1.tot_
  refine kDropVF ⟨S, h1, h2⟩ hG hok hb ((dropN v w h1.at_ hx hk (by omega)).mono fun e w' hh => ⟨hh.1, ?_⟩)
  obtain ⟨T, q1, q2, q3, q4, q5, q6⟩ := unhide hh.2
  have hc := h1.cfoot
  obtain ⟨L', k1, k2⟩ := h1.aft (lk' := lk) (M := N) ((q4.block c (heap_lt h1.box) hc).trans h1.box) q1 (q4.mono (fun k _ e => .inr e)) q5 (by omega) (by omega)
  refine ⟨L', ⟨_, k1, sameC_drop h2 hG (fun z hz e => hb ⟨z, hz, .inl e⟩) hV (fun a b => ?_)⟩, k2⟩
  constructor
  · rintro ⟨z, hz, z1, z2⟩
    rcases List.mem_append.1 hz with hz | hz
    · obtain ⟨m1, m2⟩ := mem_pout.1 hz
      have hne : ∀ k ∈ z.ks, k ≠ v := fun k hkz e => by
        rcases h1.at_.fam.of m1 hx with rfl | hap
        · exact m2 rfl
        · exact hap.2.2 k hkz (by rw [e]; exact hk)
      exact ⟨⟨z, m1, z1, z2⟩, hne a z1, hne b z2⟩
    · obtain ⟨a1, a2⟩ := (q2 z hz a).1 z1
      obtain ⟨b1, b2⟩ := (q2 z hz b).1 z2
      exact ⟨⟨x, hx, a1, b1⟩, a2, b2⟩
  · rintro ⟨⟨z, hz, z1, z2⟩, n1, n2⟩
    by_cases hq : z.q = x.q
    · rcases h1.at_.fam.of hz hx with rfl | hap
      · rcases q3 with ⟨rfl, e⟩ | ⟨y, rfl, -⟩
        · rw [e] at z1; exact absurd (List.mem_singleton.1 z1) n1
        · exact ⟨y, by simp, (q2 y (by simp) a).2 ⟨z1, n1⟩, (q2 y (by simp) b).2 ⟨z2, n2⟩⟩
      · exact absurd hq hap.1
    · exact ⟨z, List.mem_append.2 (.inl (mem_pout.2 ⟨hz, hq⟩)), z1, z2⟩
end
end

end Go.Proofs.YtkmhcgmmbkchaaaGreat
