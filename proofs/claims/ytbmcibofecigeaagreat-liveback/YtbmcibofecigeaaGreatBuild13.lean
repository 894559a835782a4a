/- Build, and the calls that only read. -/
import Derived.Test.YtbmcibofecigeaaGreatGrowM13
import Derived.Deep.LoopGhost
namespace Go.Proofs.YtbmcibofecigeaaGreat

section
open Go.RowKit Go.Maps
attribute [local go_sem] run_storeF
theorem WyAt.kept {B : Nat} {w w' : World} {v : Value} {xs : List SlV} {wss : List (List WyV)} (h : WyAt B w v xs wss) (hk : ∀ b, B ≤ b → b < w.heap.size → w'.heap[b]? = w.heap[b]?) : WyAt B w' v xs wss :=
  ⟨rrow_kept h.outer (fun b e => hk b (h.outer.lt b e).1 (h.outer.lt b e).2), h.len, fun i x ws h1 h2 => rrow_kept (h.inner i x ws h1 h2) (fun b e => hk b ((h.inner i x ws h1 h2).lt b e).1 ((h.inner i x ws h1 h2).lt b e).2), h.ap0, h.ap⟩
def wyF (ys : List Int) (es : List EdV) (p : Nat) : List WyV := (waysL ys es).getD p []
/-- What grow leaves. -/
def GrowAns (w : World) (p : Nat) (s : Int) (dv fv : Value) (ys : List Int) (Wy : Nat → List WyV) (st : Nat) (W : World) : Prop :=
  ∃ ds fs ord, Dj ys.length Wy st ys ds fs ord [] ys.length 0 ∧ TrAt 0 W p s dv fv ds fs ∧ Turned (fun b => dv.ownBlock = some b ∨ fv.ownBlock = some b) w W
theorem rank_plc (ds : List DiV) (v : Int) : rankV ds v = plc (ds.map (·.1)) v := by unfold rankV plc; rw [List.countP_map]; rfl
theorem bare_map (s : Int) (ys : List Int) : (bareD s ys).map (·.1) = ys := by unfold bareD; rw [List.map_map]; exact List.map_id' ys
theorem bare_rise {s : Int} {ys : List Int} (h : ys.Pairwise (· < ·)) : RiseD (bareD s ys) := by unfold RiseD bareD; rw [List.pairwise_map]; exact h
section
variable [Inhabited EntF] {w W : World} {p : Nat} {s : Int} {dv fv : Value} {ys : List Int} {Wy : Nat → List WyV} {ds : List DiV} {fs : List Int}
theorem newT (hT : TrAt 0 w p s dv fv ds fs) (hb : Below w.heap.size w W) :
    Calls Tryz.prog 74 #[.func (.func 48) #[] #[]] W fun e w' => ∃ ph, e = .returned (.pointer (some ⟨ph, 0, none⟩)) ∧ Hid (GM w p s dv fv ph ds fs [] 0 w') := by
  refine (newOnF 48 W lessB).mono ?_
  rintro e w' ⟨rfl, hb2, F, ho, hF⟩
  have hb3 := hb.trans (hb2.mono hb.size)
  exact ⟨_, rfl, hT.below hb3, turned_of_below hb3, ⟨F, ho, fun j hj => Nat.le_trans hb.size (hF j hj)⟩, fun b e => (hT.lt e).2, Nat.le_refl _⟩
theorem pushT {ph : Nat} (h : GM w p s dv fv ph (bareD s ys) (List.replicate ys.length 0) [] 0 W) (hG : GK ys Wy) (hs : s ∈ ys) :
    Calls Tryz.prog 75 #[.pointer (some ⟨ph, 0, none⟩), .int .i64 (plc ys s : Nat), .float .f32 0] W fun e w' => e = .returned (.bool true) ∧ Hid (GD w p s dv fv ph ys Wy (plc ys s) (bareD s ys) (List.replicate ys.length 0) [] [⟨(plc ys s : Int), 0, 0⟩] 1 w') := by
  obtain ⟨F, ho, hF⟩ := h.on
  have hp := plc_lt hs
  have := hG.len
  refine (ho.push (plc ys s : Int) 0 (okF (by omega)) (fun x hx => by cases hx) (by simp) (by omega)).mono ?_
  rintro e w' ⟨rfl, F', g1, g2, g3⟩
  exact ⟨rfl, h.heap hF g1 g2 g3 (by simp), dj_start hG.rise hs, by simp⟩
set_option maxHeartbeats 4000000 in
set_option maxRecDepth 100000 in
theorem growS {wv : Value} {es : List EdV} {xs : List SlV} {B : Nat} (hT : TrAt 0 w p s dv fv (bareD s ys) (List.replicate ys.length 0)) (hB : ∀ b, dv.ownBlock = some b ∨ fv.ownBlock = some b → b < B) (hW : WyAt B w wv xs (waysL ys es)) (hG : GK ys (wyF ys es)) (hs : s ∈ ys) :
    Calls Tryz.prog 40 #[.pointer (some ⟨p, 0, none⟩), wv] w fun e w' => e = .returned (.tuple #[]) ∧ Hid (GrowAns w p s dv fv ys (wyF ys es) (plc ys s) w') := by
  have hpos : 0 < ys.length := List.length_pos_of_mem hs
  obtain ⟨a1, c1, rfl⟩ := rrow_shape hT.ds_
  obtain ⟨gd, rfl⟩ := rrow_some hT.ds_ (by unfold bareD; rw [List.length_map]; exact hpos)
  obtain ⟨a2, c2, rfl, -⟩ := brow_shape hT.fs_
  obtain ⟨gf2, rfl⟩ := brow_some hT.fs_ (by rw [List.length_replicate]; exact hpos)
  obtain ⟨a3, c3, rfl⟩ := rrow_shape hW.outer
  have hxl : xs.length = ys.length := by rw [hW.len, waysL_len]
  obtain ⟨gw, rfl⟩ := rrow_some hW.outer (by omega)
  obtain ⟨md, hmd⟩ : ∃ md, md = (bareD s ys).length := ⟨_, rfl⟩
  obtain ⟨mf, hmf⟩ : ∃ mf, mf = (List.replicate ys.length (0 : Int)).length := ⟨_, rfl⟩
  obtain ⟨mw, hmw⟩ : ∃ mw, mw = xs.length := ⟨_, rfl⟩
  obtain ⟨n, hn⟩ : ∃ n, n = ys.length := ⟨_, rfl⟩
  obtain ⟨st, hst⟩ : ∃ st, st = plc ys s := ⟨_, rfl⟩
  rw [← hmd] at hT hB
  rw [← hmf] at hT hB
  rw [← hmw] at hW
  have HW : Hid (∀ W, Turned (fun b => (Value.slice (some ⟨gd, 0, none⟩) md c1).ownBlock = some b ∨ (Value.slice (some ⟨gf2, 0, none⟩) mf c2).ownBlock = some b) w W → WyAt B W (.slice (some ⟨gw, 0, none⟩) mw c3) xs (waysL ys es)) := fun W ht => hW.kept (fun b h1 h2 => ht.block b h2 (fun z => by have := hB b z; omega))
  have HN : Hid (n = ys.length ∧ mw = n ∧ xs.length = n ∧ n ≤ 1000 ∧ 0 < n ∧ st = plc ys s) := ⟨hn, by omega, by omega, by rw [hn]; exact hG.len, by omega, hst⟩
  have HG := hide hG
  have C1 := hide (placeS hT (bare_rise hG.rise) (by unfold bareD; rw [List.length_map]; exact hG.len) s)
  rw [rank_plc, bare_map, decide_eq_true hs, ← hst] at C1
  have HT := hide hT
  have HS := hide hs
  obtain ⟨t0, -, -, -⟩ := cellsT hT.box
  rw [← hst]
  rw [← hmd, ← hmf, ← hmw]
  clear hT hB hW hG hs hpos hxl hmd hmf hmw hn hst
  go_enter Tryz.func40, Tryz.ntmps40
  go_wp2_with fail
  refine (unhide C1).mono ?_
  rintro e w1 ⟨rfl, hb1⟩
  have C2 := hide (newT (unhide HT) (unhide hb1))
  clear C1 hb1 t0
  go_wp2_with fail
  refine (unhide C2).mono ?_
  rintro e w2 ⟨ph, rfl, H2⟩
  have C3 := hide (fold_zero none 0 w2)
  have C4 := hide (pushT (unhide H2) (unhide HG) (unhide HS))
  rw [← (unhide HN).2.2.2.2.2] at C4
  clear C2 H2
  go_wp2_with fail
  refine (unhide C3).mono ?_
  rintro e w3 ⟨rfl, hw3⟩
  rw [hw3]
  clear C3 hw3 w3
  go_wp2_with fail
  refine (unhide C4).mono ?_
  rintro e w4 ⟨rfl, H4⟩
  have C5 := hide (popT (g := n) (unhide H4) (unhide HG) (by rw [(unhide HN).1]; simp))
  clear C4 H4
  go_wp2_with fail
  refine (unhide C5).mono ?_
  rintro e w5 ⟨a5, c5, b5, rfl, H5⟩
  clear C5
  go_wp2_with fail
  go_loopg [7, 8, 9] n (fun g s7 s8 s9 wr => ∃ (a : Int) (c : Nat) (b : Bool) (g0 : Nat), s7 = .int .i64 a ∧ s8 = .float .f32 c ∧ s9 = .bool b ∧ Hid (g0 = g ∧ PopAns w p s (.slice (some ⟨gd, 0, none⟩) md c1) (.slice (some ⟨gf2, 0, none⟩) mf c2) ph ys (wyF ys es) st g0 a c b wr))
  case atStart => exact ⟨a5, c5, b5, n, rfl, rfl, rfl, rfl, unhide H5⟩
  case round =>
    clear H5
    obtain ⟨a, c, b, g0, rfl, rfl, rfl, HI⟩ := hrel
    cases b with
    | false =>
      have HE : Hid (GrowAns w p s (.slice (some ⟨gd, 0, none⟩) md c1) (.slice (some ⟨gf2, 0, none⟩) mf c2) ys (wyF ys es) st wr) := by
        obtain ⟨-, ⟨z, -⟩ | ⟨-, ds, fs, ord, nn, h⟩⟩ := unhide HI
        · cases z
        · exact ⟨ds, fs, ord, h.dj, h.gm.tr, h.gm.tur⟩
      clear HI
      go_wp2_with fail
      go_end0
      exact ⟨rfl, HE⟩
    | true =>
      obtain ⟨hg0, ⟨-, at_, rfl, ds, fs, ord, ms, nn, hS, hle⟩ | ⟨z, -⟩⟩ := unhide HI
      case inr => cases z
      have HG0 := hide hg0
      obtain ⟨n1, n2, n3, n4, n5, -⟩ := unhide HN
      have han := hS.an
      obtain ⟨⟨xa, xn, xc⟩, hx⟩ : ∃ x, xs[at_]? = some x := ⟨_, List.getElem?_eq_getElem (by omega)⟩
      have hws : (waysL ys es)[at_]? = some (wyF ys es at_) := by
        unfold wyF; rw [List.getD_eq_getElem?_getD, waysL_at (by omega)]; rfl
      have hWy := unhide HW wr hS.gm.tur
      have hrow := hWy.inner at_ _ _ hx hws
      have hxn : xn = (wyF ys es at_).length := rrow_len hrow
      have k1 : wr.cell? ⟨gw, at_, none⟩ = some (.slice xa xn xc) := hdrow_at hWy.outer hx
      have z1 : (at_ : Int) < (mw : Int) := by omega
      have HX : Hid (xs[at_]? = some (xa, xn, xc) ∧ (waysL ys es)[at_]? = some (wyF ys es at_) ∧ xn = (wyF ys es at_).length) := ⟨hx, hws, hxn⟩
      have HS2 : Hid (∃ ds fs ord ms nn, GS w p s (.slice (some ⟨gd, 0, none⟩) md c1) (.slice (some ⟨gf2, 0, none⟩) mf c2) ph ys (wyF ys es) st ds fs ord ms nn at_ 0 c wr ∧ ys.length + 1 ≤ ord.length + g0) := ⟨ds, fs, ord, ms, nn, hS, hle⟩
      clear HI hg0 hle hS n1 n2 n3 n4 n5 han hx hws hWy hrow hxn ds fs ord ms nn
      go_wp2_with fail
      clear k1 z1
      go_loopg [45] xn (fun gj s45 wr => ∃ (k j : Nat), s45 = .int .i64 k ∧ Hid (j = gj ∧ k + j = xn ∧ ∃ ds fs ord ms nn, GS w p s (.slice (some ⟨gd, 0, none⟩) md c1) (.slice (some ⟨gf2, 0, none⟩) mf c2) ph ys (wyF ys es) st ds fs ord ms nn at_ k c wr ∧ ys.length + 1 ≤ ord.length + g0))
      case atStart => exact ⟨0, xn, rfl, rfl, Nat.zero_add _, unhide HS2⟩
      case round =>
        clear HS2
        obtain ⟨k, j, rfl, HI⟩ := hrel
        obtain ⟨hj, hkj, ds, fs, ord, ms, nn, hS, hle⟩ := unhide HI
        obtain ⟨hx, hws, hxn⟩ := unhide HX
        have hwl := (unhide HG).wl at_
        by_cases hlt : k < xn
        · obtain ⟨⟨e, q, wt⟩, hy⟩ : ∃ y, (wyF ys es at_)[k]? = some y := ⟨_, List.getElem?_eq_getElem (by omega)⟩
          have hWy := unhide HW wr hS.gm.tur
          have hrow : WRow B wr (.slice xa xn xc) (wyF ys es at_) := hWy.inner at_ _ _ hx hws
          obtain ⟨gx, rfl⟩ := rrow_some hrow (by omega)
          obtain ⟨d0, d1, d2⟩ := wrow_at hrow hy
          have hb := below_new wr (oWy e q wt)
          obtain ⟨o0, o1, o2⟩ := cellsWy (heap_alloc_new wr (oWy e q wt))
          have hblk := heap_alloc_new wr (oWy e q wt)
          have hsz : (wr.alloc (oWy e q wt)).heap.size = wr.heap.size + 1 := by simp
          obtain ⟨W1, hW1⟩ : ∃ W1, W1 = wr.alloc (oWy e q wt) := ⟨_, rfl⟩
          rw [← hW1] at o0 o1 o2 hb hblk hsz
          obtain ⟨wb, hwb⟩ : ∃ wb, wb = wr.heap.size := ⟨_, rfl⟩
          rw [← hwb] at o0 o1 o2 hblk
          obtain ⟨cc, hcc⟩ : ∃ cc, cc = M.addC c wt := ⟨_, rfl⟩
          have hyin := (unhide HG).win at_ _ (List.mem_of_getElem? hy)
          have hcI : c ≤ 2139095040 := by rw [← hS.cst]; exact hS.dj.le_ at_
          have C1 := hide (add_cost (x := c) (y := wt) hcI hyin.2)
          rw [← hcc] at C1
          have C2 := hide (offT hS (unhide HG) hb hy rfl hcc)
          have HK : Hid (hS.gm.tur = hS.gm.tur ∧ j = j) := ⟨rfl, rfl⟩
          have HSk := hide hS
          have HY : Hid ((wyF ys es at_)[k]? = some (e, q, wt) ∧ cc = M.addC c wt ∧ ys.length + 1 ≤ ord.length + g0 ∧ wr.heap.size ≤ wb ∧ wb < W1.heap.size ∧ W1.heap[wb]? = some (oWy e q wt)) := ⟨hy, hcc, hle, by omega, by omega, hblk⟩
          obtain ⟨k', hk'⟩ : ∃ k', k' = k + 1 := ⟨_, rfl⟩
          have zw : Hid (wrap64 ((k : Int) + 1) = (k' : Int)) := by show wrap64 ((k : Int) + 1) = (k' : Int); unfold wrap64; omega
          have HJ : Hid (k' = k + 1 ∧ k' + (j - 1) = xn ∧ j - 1 < j) := ⟨hk', by omega, by omega⟩
          have HGJ := hide hj
          have z1 : (k : Int) < (xn : Int) := by omega
          have HW1 := hide hW1
          have HWB := hide hwb
          clear HK HI hj hkj hS hle hx hws hxn hwl hlt hy hWy hrow hb hblk hsz hW1 hwb hcc hyin hcI hk'
          (try dsimp only at d0 d1 d2)
          go_upto_region 9 with fail
          rw [show wr.alloc (.cells #[.int .i64 e, .int .i64 (q : Nat), .float .f32 wt] 130) = W1 from (unhide HW1).symm, ← unhide HWB]
          clear HW1 HWB d0 d1 d2 z1
          go_wp2_with fail
          refine (unhide C1 _).mono ?_
          rintro e1 w6 ⟨rfl, hw6⟩
          rw [hw6]
          clear C1 hw6 w6
          go_wp2_with fail
          refine (unhide C2).mono ?_
          rintro e1 w7 ⟨r, rfl, H7⟩
          clear C2
          cases r with
          | true =>
            obtain ⟨q0, q1, q2⟩ := cellsWy (((unhide H7).2 wb (unhide HY).2.2.2.1 (unhide HY).2.2.2.2.1).trans (unhide HY).2.2.2.2.2)
            have C3 := hide (leadT (unhide HSk) (unhide HG) (unhide HY).1 (unhide HY).2.1 (unhide H7).1)
            clear o0 o1 o2 H7
            go_wp2_with fail
            refine (unhide C3).mono ?_
            rintro e1 w8 ⟨rfl, H8⟩
            clear C3 q0 q1 q2
            go_wp2_with fail
            (try rw [unhide zw])
            go_roundg (j - 1)
            case measure => have h1 := unhide HJ; have h2 := unhide HGJ; omega
            case rel =>
              obtain ⟨ds', fs', ms', nn', h⟩ := unhide H8
              rw [← (unhide HJ).1] at h
              exact ⟨k', j - 1, by first | rfl | (rw [unhide zw]), rfl, (unhide HJ).2.1, ds', fs', ord, ms', nn', h, (unhide HY).2.2.1⟩
          | false =>
            have H8 : Hid (GS w p s (.slice (some ⟨gd, 0, none⟩) md c1) (.slice (some ⟨gf2, 0, none⟩) mf c2) ph ys (wyF ys es) st ds fs ord ms nn at_ k' c w7) := by
              obtain ⟨⟨z, -⟩ | ⟨-, h1, h2, h3⟩, -⟩ := unhide H7
              · cases z
              · rw [show Hid _ = _ from rfl, (unhide HJ).1]
                exact (unhide HSk).skip (unhide HY).1 rfl (unhide HY).2.1 h1 h2 h3
            clear o0 o1 o2 H7
            go_wp2_with fail
            (try rw [unhide zw])
            go_roundg (j - 1)
            case measure => have h1 := unhide HJ; have h2 := unhide HGJ; omega
            case rel => exact ⟨k', j - 1, by first | rfl | (rw [unhide zw]), rfl, (unhide HJ).2.1, ds, fs, ord, ms, nn, unhide H8, (unhide HY).2.2.1⟩
        · have z1 : ¬ (k : Int) < (xn : Int) := by omega
          have hg1 : 1 ≤ g0 := by have := hS.dj.ordl; omega
          have C1 := hide (popT (g := g0 - 1) (hS.done (by omega) (by omega)) (unhide HG) (by omega))
          have HG1 := hide hg1
          clear HI hj hkj hS hle hx hws hxn hwl hlt hg1
          go_wp2_with fail
          refine (unhide C1).mono ?_
          rintro e1 w6 ⟨a6, c6, b6, rfl, H6⟩
          clear C1
          go_wp2_with fail
          go_roundg (g0 - 1)
          case measure => have h1 := unhide HG0; have h2 := unhide HG1; omega
          case rel => exact ⟨a6, c6, b6, g0 - 1, rfl, rfl, rfl, rfl, unhide H6⟩
end
end

section
open Go.RowKit Go.Maps
theorem mem_wyF {ys : List Int} {es : List EdV} {p : Nat} {y : WyV} : y ∈ wyF ys es p ↔ p < ys.length ∧ ∃ x ∈ es, plc ys x.2.1 = p ∧ wayOf ys x = y := by
  unfold wyF
  rw [List.getD_eq_getElem?_getD]
  rcases Nat.lt_or_ge p ys.length with q | q
  · rw [waysL_at q]
    simp only [Option.getD_some, List.mem_map, List.mem_filter, decide_eq_true_eq]
    exact ⟨fun ⟨x, ⟨h1, h2⟩, h3⟩ => ⟨q, x, h1, h2, h3⟩, fun ⟨_, x, h1, h2, h3⟩ => ⟨x, ⟨h1, h2⟩, h3⟩⟩
  · rw [List.getElem?_eq_none (by rw [waysL_len]; exact q)]
    simp only [Option.getD_none, List.not_mem_nil, false_iff]
    exact fun ⟨z, _⟩ => by omega
theorem wyF_len (ys : List Int) (es : List EdV) (p : Nat) : (wyF ys es p).length ≤ es.length := by
  unfold wyF
  rw [List.getD_eq_getElem?_getD]
  rcases Nat.lt_or_ge p ys.length with q | q
  · rw [waysL_at q, Option.getD_some, List.length_map]; exact List.length_filter_le _ _
  · rw [List.getElem?_eq_none (by rw [waysL_len]; exact q)]; exact Nat.zero_le _
theorem kept_le {n b : Int} (h : kept n = some b) : b < 2139095040 := by
  unfold kept at h
  split at h
  · have : (0 : Int) = b := by injection h
    omega
  · split at h
    · cases h
    · have : n = b := by injection h
      omega
theorem wtN_le (x : EdV) : wtN x < 2139095040 := by
  unfold wtN
  cases h : kept x.2.2.2 with
  | none => show (0 : Int).toNat < _; decide
  | some b => have := kept_le h; show b.toNat < _; omega
/-- What is so of lists without fault. -/
structure Good (ys : List Int) (es : List EdV) (s : Int) : Prop where
  nd : ys.Nodup
  en : (es.map (·.1)).Nodup
  lo : ∀ x ∈ es, 1 ≤ x.1
  src : s ∈ ys
  ends : ∀ x ∈ es, x.2.1 ∈ ys ∧ x.2.2.1 ∈ ys
  wt : ∀ x ∈ es, (kept x.2.2.2).isSome = true
theorem fault_zero {ys : List Int} {es : List EdV} {s : Int} : faultC ys es s = 0 ↔ Good ys es s := by
  unfold faultC
  constructor
  · intro h
    split at h
    · cases h
    · rename_i h1
      split at h
      · cases h
      · rename_i h2
        split at h
        · cases h
        · rename_i h3
          split at h
          · cases h
          · rename_i h4
            simp only [Bool.or_eq_true, Bool.not_eq_true', decide_eq_false_iff_not, not_or, Classical.not_not] at h1 h3
            have h2' : ∀ x ∈ es, lowB x = false := fun x hx => by
              cases q : lowB x with
              | false => rfl
              | true => exact absurd (List.any_eq_true.2 ⟨x, hx, q⟩) h2
            have h3' : ∀ x ∈ es, awayB ys x = false := fun x hx => by
              cases q : awayB ys x with
              | false => rfl
              | true => exact absurd (List.any_eq_true.2 ⟨x, hx, q⟩) h3.2
            have h4' : ∀ x ∈ es, badB x = false := fun x hx => by
              cases q : badB x with
              | false => rfl
              | true => exact absurd (List.any_eq_true.2 ⟨x, hx, q⟩) h4
            refine ⟨h1.1, h1.2, fun x hx => ?_, h3.1, fun x hx => ?_, fun x hx => ?_⟩
            · have := h2' x hx
              unfold lowB at this
              have := of_decide_eq_false this
              omega
            · have := h3' x hx
              unfold awayB at this
              simpa using this
            · have := h4' x hx
              unfold badB at this
              cases q : kept x.2.2.2 with
              | none => rw [q] at this; cases this
              | some b => rfl
  · intro h
    rw [if_neg, if_neg, if_neg, if_neg]
    · intro q
      obtain ⟨x, hx, h2⟩ := List.any_eq_true.1 q
      unfold badB at h2
      have := h.wt x hx
      cases e : kept x.2.2.2 with
      | none => rw [e] at this; cases this
      | some b => rw [e] at h2; cases h2
    · intro q
      rcases (Bool.or_eq_true _ _).mp q with q | q
      · rw [decide_eq_true h.src] at q; cases q
      · obtain ⟨x, hx, h2⟩ := List.any_eq_true.1 q
        unfold awayB at h2
        rw [decide_eq_true (h.ends x hx).1, decide_eq_true (h.ends x hx).2] at h2; cases h2
    · intro q
      obtain ⟨x, hx, h2⟩ := List.any_eq_true.1 q
      unfold lowB at h2
      have := h.lo x hx
      have := of_decide_eq_true h2
      omega
    · intro q
      rw [decide_eq_true h.nd, decide_eq_true h.en] at q; cases q
theorem strict_of_nodup {ys : List Int} (hs : ys.Pairwise (· ≤ ·)) (hn : ys.Nodup) : ys.Pairwise (· < ·) := by
  have := hs.and hn
  exact this.imp (fun ⟨a, b⟩ => by omega)
theorem Good.gk {ys : List Int} {es : List EdV} {s : Int} (h : Good ys es s) (hs : ys.Pairwise (· ≤ ·)) (h1 : ys.length ≤ 1000) (h2 : es.length ≤ 1000) : GK ys (wyF ys es) :=
  ⟨h1, strict_of_nodup hs h.nd, fun p => Nat.le_trans (wyF_len ys es p) h2, fun p y hy => by
    obtain ⟨-, x, hx, -, rfl⟩ := mem_wyF.1 hy
    have := wtN_le x
    exact ⟨plc_lt (h.ends x hx).2, by show wtN x ≤ _; omega⟩⟩
/-- A tree in memory, and what it says. -/
structure TreeAt (B : Nat) (W : World) (p : Nat) (s : Int) (ys : List Int) (es : List EdV) (ds : List DiV) (fs : List Int) : Prop where
  tr : ∃ dv fv, TrAt B W p s dv fv ds fs
  dj : ∃ ord, Dj ys.length (wyF ys es) (plc ys s) ys ds fs ord [] ys.length 0
  gk : GK ys (wyF ys es)
  good : Good ys es s
theorem TreeAt.below {B : Nat} {W W' : World} {p : Nat} {s : Int} {ys : List Int} {es : List EdV} {ds : List DiV} {fs : List Int} (h : TreeAt B W p s ys es ds fs) (hb : Below W.heap.size W W') : TreeAt B W' p s ys es ds fs := by
  obtain ⟨dv, fv, h1⟩ := h.tr
  exact ⟨⟨dv, fv, h1.below hb⟩, h.dj, h.gk, h.good⟩
def BuildAns (w : World) (ks : List Int) (es : List EdV) (s : Int) (po : Option Addr) (er : Int) (W : World) : Prop :=
  ∃ ys, ys.Perm ks ∧ ys.Pairwise (· ≤ ·) ∧ Below w.heap.size w W ∧ er = faultC ys es s ∧ ((er ≠ 0 ∧ po = none) ∨ (er = 0 ∧ ∃ p ds fs, po = some ⟨p, 0, none⟩ ∧ TreeAt w.heap.size W p s ys es ds fs))
set_option maxHeartbeats 2000000 in
set_option maxRecDepth 100000 in
theorem buildS [Inhabited EntF] {w : World} {vv ev : Value} {ks : List Int} {es : List EdV} {s : Int} (hv : NRow w vv ks) (he : ERow 0 w ev es) (hl1 : ks.length ≤ 1000) (hl2 : es.length ≤ 1000) :
    Calls Tryz.prog 13 #[vv, ev, .int .i64 s] w fun e w' => ∃ po er, e = .returned (.tuple #[.pointer po, .int .i64 er]) ∧ Hid (BuildAns w ks es s po er w') := by
  have C1 := hide (risenS hv (by omega))
  obtain ⟨a0, c0, e0, -⟩ := brow_shape hv
  obtain ⟨n0, hn0⟩ : ∃ n0, vv = .slice a0 n0 c0 := ⟨_, e0⟩
  obtain ⟨a2, c2, e2⟩ := rrow_shape he
  obtain ⟨n2, hn2⟩ : ∃ n2, ev = .slice a2 n2 c2 := ⟨_, e2⟩
  have HE := hide he
  have HL : Hid (ks.length ≤ 1000 ∧ es.length ≤ 1000) := ⟨hl1, hl2⟩
  clear e0 e2 hv he hl1 hl2
  subst hn0 hn2
  go_enter Tryz.func13, Tryz.ntmps13
  go_wp2_with fail
  refine (unhide C1).mono ?_
  rintro e w1 ⟨a1, n1, c1, rfl, H1⟩
  obtain ⟨ys, y1, y2, y3, y4⟩ := unhide H1
  have hyl : ys.length ≤ 1000 := by rw [y1.length_eq]; exact (unhide HL).1
  have C2 := hide (faultS (s := s) (brow_at0 y3) y2 (rrow_below (unhide HE) y4) hyl (unhide HL).2)
  obtain ⟨r, hr⟩ : ∃ r, r = faultC ys es s := ⟨_, rfl⟩
  rw [← hr] at C2
  have HY : Hid (ys.Perm ks ∧ ys.Pairwise (· ≤ ·) ∧ NRow w1 (.slice a1 n1 c1) ys ∧ Below w.heap.size w w1 ∧ ys.length ≤ 1000 ∧ r = faultC ys es s) := ⟨y1, y2, brow_at0 y3, y4, hyl, hr⟩
  clear C1 H1 y1 y2 y3 y4 hyl hr
  go_wp2_with fail
  refine (unhide C2).mono ?_
  rintro e w2 ⟨rfl, hb2⟩
  clear C2
  by_cases hr0 : r = 0
  · subst hr0
    have hgood := fault_zero.1 (unhide HY).2.2.2.2.2.symm
    have hB2 : Below w.heap.size w w2 := (unhide HY).2.2.2.1.trans ((unhide hb2).mono (unhide HY).2.2.2.1.size)
    have hrow := nrow_below (unhide HY).2.2.1 (unhide hb2)
    have C3 := hide (bareS (s := s) hrow (unhide HY).2.2.2.2.1)
    have HG : Hid (Good ys es s ∧ GK ys (wyF ys es)) := ⟨hgood, hgood.gk (unhide HY).2.1 (unhide HY).2.2.2.2.1 (unhide HL).2⟩
    have HB2 := hide hB2
    have HR := hide hrow
    clear hgood hB2 hrow hb2
    go_wp2_with fail
    refine (unhide C3).mono ?_
    rintro e w3 ⟨p, rfl, H3⟩
    obtain ⟨a, m, c, fv, hT, hb3⟩ := unhide H3
    have hB3 : Below w.heap.size w w3 := (unhide HB2).trans (hb3.mono (unhide HB2).size)
    have C4 := hide (waysOfS (nrow_below (unhide HR) hb3) (unhide HY).2.1 (rrow_below (unhide HE) hB3) (unhide HY).2.2.2.2.1 (unhide HL).2 (fun x hx => ⟨((unhide HG).1.ends x hx).1, ((unhide HG).1.ends x hx).2, (unhide HG).1.wt x hx⟩))
    have HT : Hid (TrAt w2.heap.size w3 p s (.slice a m c) fv (bareD s ys) (List.replicate ys.length 0)) := hT
    have HB3 : Hid (Below w.heap.size w w3 ∧ Below w2.heap.size w2 w3) := ⟨hB3, hb3⟩
    clear C3 H3 hT hb3 hB3
    go_wp2_with fail
    refine (unhide C4).mono ?_
    rintro e w4 ⟨a4, n4, c4, rfl, H4⟩
    obtain ⟨xs, hW, hb4⟩ := unhide H4
    have hT4 := (unhide HT).below hb4
    have hT0 : TrAt 0 w4 p s (.slice a m c) fv (bareD s ys) (List.replicate ys.length 0) := ⟨hT4.box, rrow_low hT4.ds_ (Nat.zero_le _), brow_low hT4.fs_ (Nat.zero_le _), Nat.zero_le _, hT4.ne1, hT4.ne2, hT4.ne3⟩
    have C5 := hide (growS hT0 (fun b e => ((unhide HT).lt (.inr e)).2) hW (unhide HG).2 (unhide HG).1.src)
    have HB4 : Hid (Below w.heap.size w w4 ∧ ∀ b, b = p ∨ (Value.slice a m c).ownBlock = some b ∨ fv.ownBlock = some b → w.heap.size ≤ b) := ⟨(unhide HB3).1.trans (hb4.mono (unhide HB3).1.size), fun b e => Nat.le_trans (unhide HB2).size (hT4.lt e).1⟩
    clear C4 H4 hW hb4 hT4 hT0
    go_wp2_with fail
    refine (unhide C5).mono ?_
    rintro e w5 ⟨rfl, H5⟩
    have HA : Hid (BuildAns w ks es s (some ⟨p, 0, none⟩) 0 w5) := by
      obtain ⟨ds, fs, ord, hD, hT5, ht⟩ := unhide H5
      obtain ⟨hB4, hlo⟩ := unhide HB4
      refine ⟨ys, (unhide HY).1, (unhide HY).2.1, hB4.trans (ht.below hB4.size (fun j hj => hlo j (.inr hj))), (unhide HY).2.2.2.2.2, .inr ⟨rfl, p, ds, fs, rfl, ⟨_, _, hT5.box, ?_, ?_, hlo p (.inl rfl), hT5.ne1, hT5.ne2, hT5.ne3⟩, ⟨ord, hD⟩, (unhide HG).2, (unhide HG).1⟩⟩
      · obtain ⟨q1, q2⟩ := hT5.ds_
        exact ⟨q1, q2.imp id (fun ⟨g, cap, cur, e, q, r⟩ => ⟨g, cap, cur, e, hlo g (.inr (.inl (by rw [e]; rfl))), r⟩)⟩
      · obtain ⟨q1, q2⟩ := hT5.fs_
        exact ⟨q1, q2.imp id (fun ⟨g, cap, cur, e, q, r⟩ => ⟨g, cap, cur, e, hlo g (.inr (.inr (by rw [e]; rfl))), r⟩)⟩
    clear C5 H5 HB4 HG HT HB3 HB2 HR HY HE HL
    go_wp2_with fail
    go_ret2
    exact ⟨_, _, rfl, HA⟩
  · have HA : Hid (BuildAns w ks es s none r w2) := ⟨ys, (unhide HY).1, (unhide HY).2.1, (unhide HY).2.2.2.1.trans ((unhide hb2).mono (unhide HY).2.2.2.1.size), (unhide HY).2.2.2.2.2, .inl ⟨hr0, rfl⟩⟩
    have z0 : (r != 0) = true := by simpa using hr0
    clear HY HE HL hb2 hr0
    go_wp2_with fail
    go_ret2
    exact ⟨_, _, rfl, HA⟩
end

end Go.Proofs.YtbmcibofecigeaaGreat
