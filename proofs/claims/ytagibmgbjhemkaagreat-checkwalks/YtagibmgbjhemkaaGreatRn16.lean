/- Numbers written as bytes: the reference's Number. -/
import Derived.Test.YtagibmgbjhemkaaGreatStNew
import Derived.Test.YtagibmgbjhemkaaGreatRefDropE
import Derived.Test.YtagibmgbjhemkaaGreatRefEdge
import Derived.Test.YtagibmgbjhemkaaGreatRefDropV
import Derived.Test.YtagibmgbjhemkaaGreatCm17
import Derived.Test.YtagibmgbjhemkaaGreatEn16
import Derived.Test.YtagibmgbjhemkaaGreatMt16
namespace Go.Proofs.YtagibmgbjhemkaaGreat

section
open Go.RowKit Go.Maps
def Gr.plus (g : Gr) (k : Int) : Gr := { g with rd := g.rd + k }
section
variable [Inhabited EntI] {B : Nat} {w0 w w' : World} {s : Nat} {g : Gr}
theorem LiveS.reads {X : Sto} {k : Nat} (h : LiveS B w0 s g w) (hs : X.s = s) (hg : Shows X g) (hl : ∀ b, X.L b ≠ none → B ≤ b) (hR : Rd w X k w') : LiveS B w0 s (g.plus k) w' :=
  h.later hs hl hR ⟨hg.V, hg.N, hg.ps, by show X.rd + (k : Int) = g.rd + (k : Int); rw [hg.rd], hg.wr, hg.n⟩
end
def x18 : EdgeV := (1, 5, 9, 1065353216)
theorem cost_x18 : costOf [x18] = 1065353216 := by
  show M.addC 0 (M.counts 1065353216) = 1065353216; rw [counts_cost (by omega), M.addC_comm (by omega) (by omega), M.addC_zero (by omega)]
theorem kept_one8 : kept 1065353216 = some 1065353216 := by unfold kept; rw [if_neg (by omega), if_neg (by omega)]
end

section
open Go.RowKit Go.Maps
open W16 (WtV Lies u8v i64v dec decV)
theorem checkL [Inhabited EntI] {B : Nat} {w0 w : World} {s : Nat} {g : Gr} {v : Value} {bs : List Nat} (h : LiveS B w0 s g w) (hv : Lies u8v w v bs) (hb : ∀ x ∈ bs, x < 256) (hl : bs.length ≤ 140737488355328) (ho : ∀ b, v.ownBlock = some b → b < w.heap.size) (hr0 : 0 ≤ g.rd) (hr1 : g.rd ≤ 100000) (hQ : ∀ (i : Nat) (x : EdgeV), g.ps[i]? = some (x, true) → Wt x) :
    Calls Tryz.prog 11 #[.iface 24 (.pointer (some ⟨s, 0, none⟩)), v] w fun e w' => Hid (∃ ev k, e = .returned (.tuple #[.agg #[.int .i64 (chkA g.V g.ps bs).1.1, .int .i64 (chkA g.V g.ps bs).1.2.1, .int .u32 ((chkA g.V g.ps bs).1.2.2.1 : Nat), ev], .int .i64 ((chkA g.V g.ps bs).2.1 : Nat), .int .i64 (chkA g.V g.ps bs).2.2]) ∧ k ≤ (decV bs).1.2.2.2.length ∧ LiveS B w0 s (g.plus (k : Int)) w' ∧ W16.NRow w.heap.size w' ev (chkA g.V g.ps bs).1.2.2.2) := by
  obtain ⟨X, x1, rfl, x3, x4⟩ := h.on; have eV : (fun k => (X.f k).isSome) = g.V := funext fun k => x3.V k
  have := checkS (X := X) x1 hv hb hl ho (by rw [x3.rd]; exact hr0) (by rw [x3.rd]; omega) (by rw [x3.ps]; exact hQ)
  rw [eV, x3.ps] at this; refine this.mono ?_; intro e w' hh; obtain ⟨ev, rfl, g1, k, g2, g3⟩ := unhide hh; exact ⟨ev, k, rfl, g2, h.reads rfl x3 x4 g3, g1⟩
theorem checkLB [Inhabited EntI] {B : Nat} {w0 w : World} {s : Nat} {g : Gr} {v : Value} {bs : List Nat} (h : LiveS B w0 s g w) (o : Obj) (hv : Lies u8v (w.alloc o) v bs) (hb : ∀ x ∈ bs, x < 256) (hl : bs.length ≤ 140737488355328) (ho : ∀ b, v.ownBlock = some b → b < (w.alloc o).heap.size) (hr0 : 0 ≤ g.rd) (hr1 : g.rd ≤ 100000) (hQ : ∀ (i : Nat) (x : EdgeV), g.ps[i]? = some (x, true) → Wt x) :
    Calls Tryz.prog 11 #[.iface 24 (.pointer (some ⟨s, 0, none⟩)), v] (w.alloc o) fun e w' => Hid (∃ ev, e = .returned (.tuple #[.agg #[.int .i64 (chkA g.V g.ps bs).1.1, .int .i64 (chkA g.V g.ps bs).1.2.1, .int .u32 ((chkA g.V g.ps bs).1.2.2.1 : Nat), ev], .int .i64 ((chkA g.V g.ps bs).2.1 : Nat), .int .i64 (chkA g.V g.ps bs).2.2]) ∧ Below B w0 w' ∧ w'.heap[w.heap.size]? = some o ∧ W16.NRow (w.alloc o).heap.size w' ev (chkA g.V g.ps bs).1.2.2.2) := by
  have h' := h.step (below_new w o); obtain ⟨X, x1, rfl, x3, x4⟩ := h.on; have eV : (fun k => (X.f k).isSome) = g.V := funext fun k => x3.V k
  have := checkS (X := X) (x1.below (below_new w o)) hv hb hl ho (by rw [x3.rd]; exact hr0) (by rw [x3.rd]; omega) (by rw [x3.ps]; exact hQ)
  rw [eV, x3.ps] at this; refine this.mono ?_; intro e w' hh; obtain ⟨ev, rfl, g1, k, g2, g3⟩ := unhide hh; exact ⟨ev, rfl, (h'.reads rfl x3 x4 g3).below, (g3.2.2.old (by simp) (x1.mem.new (Nat.le_refl _))).1.trans (heap_alloc_new _ _), g1⟩
def x17 : WtV := (5, 9, 1065353216, [1])
theorem good17 : W16.Good x17 := ⟨by decide, by decide, by decide, by decide, by decide⟩
theorem enc17 : W16.encV x17 = W16.encWt x17 := if_pos (W16.errC_good good17)
theorem lies_one (w : World) (k : Int) : Lies i64v (w.alloc (.cells #[.int .i64 k] 3)) (.slice (some ⟨w.heap.size, 0, none⟩) 1 1) [k] :=
  ⟨_, 1, rfl, by simp, fun e => (by cases e), .inr ⟨w.heap.size, 0, rfl, fun i x hx => by
    obtain rfl : i = 0 := by have := (List.getElem?_eq_some_iff.1 hx).1; simp at this; omega
    obtain rfl : k = x := by simpa using hx
    exact (cell_of_row _ _ 0 _ _ (0, 0) (heap_alloc_new w (.cells #[.int .i64 k] 3))).trans rfl⟩⟩
theorem lies_nil (w : World) : Lies u8v w (.slice none 0 0) [] := ⟨none, 0, rfl, Nat.le_refl _, fun _ => rfl, .inl rfl⟩
set_option maxHeartbeats 4000000 in
set_option maxRecDepth 100000 in
theorem awake17S [Inhabited EntI] (w : World) : Calls Tryz.prog 9 #[] w fun e w' => e = .returned (.bool true) ∧ Hid (Below w.heap.size w w') := by
  have CN := hide (newL w)
  go_enter Tryz.func9, Tryz.ntmps9
  go_wp2_with fail
  refine (unhide CN).mono ?_
  rintro e w1 ⟨s, rfl, h1⟩
  have C1 := hide (addVL 5 (unhide h1) (by omega) (by omega) rfl (by show 0 < 256; omega))
  clear CN h1
  go_wp2_with fail
  refine (unhide C1).mono ?_
  rintro e w2 ⟨rfl, h2⟩
  have C2 := hide (addVL 9 (unhide h2) (by omega) (by omega) rfl (by show 0 + 1 < 256; omega))
  clear C1 h2
  go_wp2_with fail
  refine (unhide C2).mono ?_
  rintro e w3 ⟨rfl, h3⟩
  have C4 : Hid (Calls Tryz.prog 32 #[.pointer (some ⟨s, 0, none⟩), .agg #[.int .i64 1, .int .i64 5, .int .i64 9, .int .u32 1065353216]] w3 fun r w' => r = .returned (.int .i64 0) ∧ Hid (LiveS w.heap.size w s ((⟨fun j => decide (j = 9) || (decide (j = 5) || false), 0 + 1 + 1, [], 0, 0, 0⟩ : Gr).ins 0 5 9 1065353216) w')) := putEL 0 5 9 1065353216 (unhide h3) (by omega) (fun a => by simp) rfl rfl (by omega) kept_one8 (by show 0 ≤ 900000000; omega) (by show (0 : Int) ≤ 0; omega) (by show (0 : Int) ≤ 1000000000; omega)
  clear C2 h3
  go_wp2_with fail
  refine (unhide C4).mono ?_
  rintro e w5 ⟨rfl, h5⟩
  obtain ⟨G, hG⟩ : ∃ G, G = ((⟨fun j => decide (j = 9) || (decide (j = 5) || false), 0 + 1 + 1, [], 0, 0, 0⟩ : Gr).ins 0 5 9 1065353216) := ⟨_, rfl⟩
  have hps : G.ps = [(x18, true)] := by rw [hG]; rfl
  have hrd : G.rd = 0 := by rw [hG]; rfl
  have hV5 : G.V 5 = true := by rw [hG]; rfl
  have hV9 : G.V 9 = true := by rw [hG]; rfl
  rw [← hG] at h5; have hQ : ∀ (i : Nat) (x : EdgeV), G.ps[i]? = some (x, true) → Wt x := fun i x hx => by
    rw [hps] at hx; have := (List.getElem?_eq_some_iff.1 hx).1; obtain rfl : i = 0 := by simp at this; omega
    have e : x18 = x := by simpa using hx
    rw [← e]; exact ⟨by decide, by decide⟩
  have ht : trip G.ps 5 [1] = ([x18], none) := by rw [hps]; rfl
  have CE := hide (W16.encodeS 5 9 1065353216 (lies_one w5 1) (by omega))
  have h6 := (unhide h5).step (below_new w5 (.cells #[.int .i64 1] 3)); have hd : dec (W16.encV x17) = some x17 := by rw [enc17]; exact W16.dec_enc good17
  have hch : chkA G.V G.ps (W16.encV x17) = (x17, 0, 0) := by
    unfold chkA; rw [hd]; show (if (holdA (G.V 5) (G.V 9) (trip G.ps 5 [1]) 5 9 1065353216).2 = 0 then _ else _) = _
    have : holdA (G.V 5) (G.V 9) (trip G.ps 5 [1]) 5 9 1065353216 = (0, 0) := by
      rw [hV5, hV9, ht]; unfold holdA; rw [if_neg (by decide), if_neg (by simp)]
      simp only; rw [cost_x18]; rfl
    rw [this]; rfl
  have HC : Hid (∀ W v, LiveS w.heap.size w s G W → W16.ByRow 0 W v (W16.encV x17) → Calls Tryz.prog 11 #[.iface 24 (.pointer (some ⟨s, 0, none⟩)), v] W fun e w' => ∃ ev k, e = .returned (.tuple #[.agg #[.int .i64 5, .int .i64 9, .int .u32 1065353216, ev], .int .i64 0, .int .i64 0]) ∧ (∃ a c, ev = .slice a 1 c) ∧ Hid (k ≤ 1024 ∧ LiveS w.heap.size w s (G.plus ((k : Nat) : Int)) w')) := fun W v hW hv => by
    have hby : ∀ x ∈ W16.encV x17, x < 256 := by rw [enc17]; exact W16.enc_byte x17
    have hln : (W16.encV x17).length ≤ 4000 := by rw [enc17]; exact W16.enc_len good17
    refine (checkL hW (W16.byrow_lies hv) hby (by omega) (fun b e => (hv.lt b e).2) (by rw [hrd]; omega) (by rw [hrd]; omega) hQ).mono ?_
    intro e w' hh; obtain ⟨ev, k, rfl, g1, g2, g3⟩ := unhide hh; rw [hch] at g3 ⊢; obtain ⟨a, c, e3⟩ := W16.rrow_shape g3; refine ⟨ev, k, rfl, ⟨a, c, e3⟩, ?_, g2⟩; rw [decV_some hd] at g1; have : k ≤ 1 := g1; omega
  have HC2 : Hid (∀ W (k : Nat) o, k ≤ 1024 → LiveS w.heap.size w s (G.plus (k : Int)) W → Calls Tryz.prog 11 #[.iface 24 (.pointer (some ⟨s, 0, none⟩)), .slice none 0 0] (W.alloc o) fun e w' => ∃ ev, e = .returned (.tuple #[.agg #[.int .i64 0, .int .i64 0, .int .u32 0, ev], .int .i64 0, .int .i64 160]) ∧ (∃ a c, ev = .slice a 0 c) ∧ Hid (Below w.heap.size w w' ∧ w'.heap[W.heap.size]? = some o)) := fun W k o hk hW => by
    refine (checkLB hW o (lies_nil _) (fun x hx => by cases hx) (by simp) (fun b e => by cases e) (by show 0 ≤ G.rd + (k : Int); rw [hrd]; omega) (by show G.rd + (k : Int) ≤ 100000; rw [hrd]; omega) hQ).mono ?_
    intro e w' hh; obtain ⟨ev, rfl, g1, g2, g3⟩ := unhide hh; have e0 : chkA (G.plus (k : Int)).V (G.plus (k : Int)).ps [] = ((0, 0, 0, []), 0, 160) := rfl; rw [e0] at g3 ⊢; obtain ⟨a, c, e3⟩ := W16.rrow_shape g3; exact ⟨ev, rfl, ⟨a, c, e3⟩, g1, g2⟩
  have H6 := hide h6; clear C4 h5 h6 hps hrd hV5 hV9 hG ht hQ hd hch
  go_wp2_with fail
  refine (unhide CE).mono ?_; intro e w6 hh; obtain ⟨bv, rfl, b1, b2⟩ := unhide hh; rw [show W16.errC (5, 9, 1065353216, [1]) = 0 from W16.errC_good good17]
  have C6 := hide (unhide HC w6 bv ((unhide H6).step b2) (W16.rrow_low b1 (Nat.zero_le _))); clear CE HC H6 hh b1 b2
  go_wp2_with fail
  refine (unhide C6).mono ?_
  rintro e w7 ⟨ev, k, rfl, ⟨a, c, rfl⟩, H7⟩
  obtain ⟨k1, k2⟩ := unhide H7; have C7 := hide (unhide HC2 _ k (oWt 5 9 1065353216 (.slice a 1 c)) k1 k2); have HS := hide k2.room; clear C6 HC2 H7 k1 k2
  go_upto_region 6 with fail
  change Code.wp _ _ _ _ (w7.alloc (oWt 5 9 1065353216 (.slice a 1 c))); generalize w7.alloc (oWt 5 9 1065353216 (.slice a 1 c)) = w8 at *; generalize w7.heap.size = b4 at *
  go_wp2_with fail
  refine (unhide C7).mono ?_
  rintro e w9 ⟨ev9, rfl, ⟨a9, c9, rfl⟩, H9⟩
  obtain ⟨hB, hbx⟩ := unhide H9; have hb10 := below_new w9 (oWt 0 0 0 (.slice a9 0 c9)); have hbx' := (hb10.block _ (heap_lt hbx)).trans hbx; obtain ⟨y0, y1, y2, y3⟩ := oWt_cells hbx'; have HB : Hid (Below w.heap.size w (w9.alloc (oWt 0 0 0 (.slice a9 0 c9)))) := hB.trans (hb10.mono hB.size); clear C7 H9 hB hbx hb10 hbx'
  go_upto_region 7 with fail
  change Code.wp _ _ _ _ (w9.alloc (oWt 0 0 0 (.slice a9 0 c9))); generalize w9.alloc (oWt 0 0 0 (.slice a9 0 c9)) = w10 at *
  go_wp2_with fail
  go_ret
  exact ⟨rfl, HB⟩
end

namespace W16
open Go.RowKit Go.Maps
def NumR (bs : List Nat) (at_ n at2 : Nat) : Prop := n < 34359738368 ∧ at2 ≤ max bs.length (at_ + 5) ∧ ∀ m t, bs.drop at_ = nb m ++ t → m < 34359738368 → n = m ∧ bs.drop at2 = t ∧ at2 = at_ + (nb m).length
def NumI (bs : List Nat) (at_ n sc i : Nat) : Prop := (∃ j, i = at_ + j ∧ j ≤ 5 ∧ sc = 128 ^ j ∧ n < 128 ^ j) ∧ ∀ m t, bs.drop at_ = nb m ++ t → m < 34359738368 → ∃ m', bs.drop i = nb m' ++ t ∧ m = n + m' * sc ∧ (nb m).length + at_ = i + (nb m').length
theorem numI_start (bs : List Nat) (at_ : Nat) : NumI bs at_ 0 1 at_ := ⟨⟨0, rfl, by omega, rfl, by omega⟩, fun m t h _ => ⟨m, h, by omega, by omega⟩⟩
theorem drop_get {bs : List Nat} {i x : Nat} (h : bs[i]? = some x) : bs.drop i = x :: bs.drop (i + 1) := by
  obtain ⟨h1, h2⟩ := List.getElem?_eq_some_iff.1 h; rw [List.drop_eq_getElem_cons h1, h2]
theorem numI_step {bs : List Nat} {at_ n sc i x : Nat} (h : NumI bs at_ n sc i) (hi : i < at_ + 5) (hx : bs[i]? = some x) (h128 : ¬ x < 128) (hb : x < 256) : NumI bs at_ (n + x % 128 * sc) (128 * sc) (i + 1) := by
  obtain ⟨⟨j, rfl, h2, rfl, h4⟩, h5⟩ := h; refine ⟨⟨j + 1, by omega, by omega, by rw [Nat.pow_succ, Nat.mul_comm], ?_⟩, fun m t hd hm => ?_⟩
  · have : x % 128 * 128 ^ j ≤ 127 * 128 ^ j := Nat.mul_le_mul_right _ (by omega)
    rw [Nat.pow_succ]; omega
  · obtain ⟨m', g1, g2, g3⟩ := h5 m t hd hm; rw [drop_get hx] at g1
    by_cases h0 : m' < 128
    · rw [nb_lt h0] at g1; injection g1 with g1
      omega
    · rw [nb_ge h0] at g1; injection g1 with g4 g5
      refine ⟨m' / 128, g5, ?_, ?_⟩
      · rw [g2]; have e : m' = x % 128 + m' / 128 * 128 := by omega
        have e2 : m' * 128 ^ j = x % 128 * 128 ^ j + m' / 128 * (128 * 128 ^ j) := by
          conv => lhs; rw [e]
          rw [Nat.add_mul, Nat.mul_assoc]
        omega
      · rw [nb_ge h0, List.length_cons] at g3; omega
theorem numI_last {bs : List Nat} {at_ n sc i x : Nat} (h : NumI bs at_ n sc i) (hi : i < at_ + 5) (hx : bs[i]? = some x) (h128 : x < 128) : NumR bs at_ (n + x % 128 * sc) (i + 1) := by
  obtain ⟨⟨j, rfl, h2, rfl, h4⟩, h5⟩ := h; have hl := (List.getElem?_eq_some_iff.1 hx).1; refine ⟨?_, by omega, fun m t hd hm => ?_⟩
  · have : x % 128 * 128 ^ j ≤ 127 * 128 ^ j := Nat.mul_le_mul_right _ (by omega)
    have h6 : (128 : Nat) ^ j ≤ 128 ^ 4 := Nat.pow_le_pow_right (by omega) (by omega)
    have h7 : (128 : Nat) ^ 4 = 268435456 := by decide
    omega
  · obtain ⟨m', g1, g2, g3⟩ := h5 m t hd hm; rw [drop_get hx] at g1
    by_cases h0 : m' < 128
    · rw [nb_lt h0] at g1 g3; injection g1 with g4 g5
      rw [List.length_singleton] at g3; exact ⟨by rw [g2, g4, Nat.mod_eq_of_lt h0], g5, by omega⟩
    · rw [nb_ge h0] at g1; injection g1 with g4 g5
      omega
theorem numI_none {bs : List Nat} {at_ n sc i : Nat} (h : NumI bs at_ n sc i) (hi : ¬ (i < bs.length ∧ i < at_ + 5)) : NumR bs at_ 0 bs.length := by
  obtain ⟨⟨j, rfl, h2, rfl, h4⟩, h5⟩ := h; refine ⟨by omega, by omega, fun m t hd hm => ?_⟩
  obtain ⟨m', g1, g2, g3⟩ := h5 m t hd hm; have hp := nb_pos m'; have hl := congrArg List.length g1; rw [List.length_drop, List.length_append] at hl; have h6 := nb_len 4 m (by simpa using hm)
  omega
theorem num_arith {n sc x i j : Nat} (_ : x < 256) (j2 : j ≤ 4) (j3 : sc = 128 ^ j) (j4 : n < 128 ^ j) (hi : i ≤ 150000000000000) :
    ∃ pt y n2 sc2 i2, (x : Int) % 128 = ((pt : Nat) : Int) ∧ wrap64 ((pt : Int) * (sc : Int)) = ((y : Nat) : Int) ∧ Hid (wrap64 ((n : Int) + (y : Int)) = ((n2 : Nat) : Int)) ∧ Hid (wrap64 (128 * (sc : Int)) = ((sc2 : Nat) : Int)) ∧ Hid (wrap64 ((i : Int) + 1) = ((i2 : Nat) : Int)) ∧ Hid (n2 = n + x % 128 * sc ∧ sc2 = 128 * sc ∧ i2 = i + 1) := by
  have hp4 : sc ≤ 268435456 := by
    rw [j3]; have h7 : (128 : Nat) ^ 4 = 268435456 := by decide
    rw [← h7]; exact Nat.pow_le_pow_right (by omega) (by omega)
  have hn : n ≤ 268435456 := by rw [← j3] at j4; omega
  clear j3 j4; have hyb : x % 128 * sc ≤ 34091302912 := Nat.le_trans (Nat.mul_le_mul (show x % 128 ≤ 127 by omega) hp4) (by omega)
  refine ⟨x % 128, x % 128 * sc, n + x % 128 * sc, 128 * sc, i + 1, by omega, ?_, ?_, ?_, ?_, rfl, rfl, rfl⟩
  · have : (((x % 128 : Nat) : Int) * (sc : Int)) = ((x % 128 * sc : Nat) : Int) := by simp
    rw [this]; generalize x % 128 * sc = y at *; unfold wrap64; omega
  · show wrap64 _ = _; generalize x % 128 * sc = y at *; unfold wrap64; omega
  · show wrap64 _ = _; unfold wrap64; omega
  · show wrap64 _ = _; unfold wrap64; omega
set_option maxHeartbeats 4000000 in
set_option maxRecDepth 100000 in
theorem numR {w : World} {v : Value} {bs : List Nat} (at_ : Nat) (h : Lies u8v w v bs) (hb : ∀ x ∈ bs, x < 256) (hl : bs.length ≤ 140737488355328) (ha : at_ ≤ 140737488355428) :
    Calls Tryz.prog 34 #[v, .int .i64 (at_ : Nat)] w fun e w' => ∃ n at2 : Nat, e = .returned (.tuple #[.int .i64 (n : Nat), .int .i64 (at2 : Nat)]) ∧ w' = w ∧ Hid (NumR bs at_ n at2) := by
  obtain ⟨a, c, hv⟩ := lies_shape h; obtain ⟨N, hN⟩ : ∃ N, N = bs.length := ⟨_, rfl⟩; rw [← hN] at hv; subst hv; have HN : Hid (N = bs.length ∧ N ≤ 140737488355328 ∧ at_ ≤ 140737488355428 ∧ (∀ x ∈ bs, x < 256)) := ⟨hN, by omega, ha, hb⟩
  have H := hide h; have za : Hid (wrap64 ((at_ : Int) + 5) = ((at_ + 5 : Nat) : Int)) := by show wrap64 _ = _; unfold wrap64; omega
  clear h hb hl ha hN
  go_enter Tryz.func34, Tryz.ntmps34
  go_wp2_with fail
  go_loopw [6, 7, 8] (fun s6 s7 s8 wr => ∃ (n sc i : Nat), s6 = .int .i64 (n : Nat) ∧ s7 = .int .i64 (sc : Nat) ∧ s8 = .int .i64 (i : Nat) ∧ wr = w ∧ Hid (NumI bs at_ n sc i)) (fun _ _ s8 _ => at_ + 5 - (intOf s8).toNat)
  case atStart => exact ⟨0, 1, at_, rfl, rfl, rfl, rfl, numI_start bs at_⟩
  case round =>
    obtain ⟨n, sc, i, rfl, rfl, rfl, rfl, HI⟩ := hrel; obtain ⟨l1, l2, l3, l4⟩ := unhide HN; obtain ⟨⟨j, j1, j2, j3, j4⟩, -⟩ := unhide HI; obtain ⟨a5, ha5⟩ : ∃ a5, a5 = at_ + 5 := ⟨_, rfl⟩; have hw5 : wrap64 ((at_ : Int) + 5) = (a5 : Int) := by rw [unhide za, ha5]
    by_cases hlt : i < N
    · have z1 : (i : Int) < (N : Int) := by omega
      by_cases h5 : i < a5
      · have z2 : (i : Int) < (a5 : Int) := by omega
        obtain ⟨x, hx⟩ : ∃ x, bs[i]? = some x := ⟨_, List.getElem?_eq_getElem (by omega)⟩
        have hx2 := l4 x (List.mem_of_getElem? hx); obtain ⟨b, off, rfl, k0⟩ := lies_at (unhide H) hx; unfold u8v at k0; obtain ⟨pt, y, n2, sc2, i2, y1, y2, Y3, Y4, YI, HS⟩ := num_arith (n := n) (i := i) hx2 (show j ≤ 4 by omega) j3 j4 (by omega)
        obtain ⟨hn2, hs2, hi2⟩ := unhide HS
        by_cases hx8 : x < 128
        · have z3 : (x : Int) < 128 := by omega
          have HR : Hid (NumR bs at_ n2 i2) := by show NumR bs at_ n2 i2; rw [hn2, hi2]; exact numI_last (unhide HI) (by clear y1 y2 hw5; omega) hx hx8
          clear HI l1 l2 l3 l4 j1 j2 j3 j4 ha5 hlt h5 hx hn2 hs2 hi2 hx8 za HS
          go_wp2_with fail
          go_ret2
          exact ⟨n2, i2, by (try rw [unhide Y3]) <;> (try rw [unhide YI]) <;> rfl, rfl, HR⟩
        · have z3 : ¬ (x : Int) < 128 := by omega
          have HJ : Hid (NumI bs at_ n2 sc2 i2 ∧ at_ + 5 - i2 < at_ + 5 - i) := ⟨by rw [hn2, hi2, hs2]; exact numI_step (unhide HI) (by clear y1 y2 hw5; omega) hx hx8 hx2, by clear y1 y2 hw5; omega⟩
          clear HI l1 l2 l3 l4 j1 j2 j3 j4 ha5 hlt h5 hx hn2 hs2 hi2 hx8 za HS
          go_wp2_with fail
          exact ⟨⟨n2, sc2, i2, by (try rw [unhide Y3]) <;> rfl, by (try rw [unhide Y4]) <;> rfl, by (try rw [unhide YI]) <;> rfl, trivial, (unhide HJ).1⟩, by (try rw [unhide YI]); exact (unhide HJ).2⟩
      · have z2 : ¬ (i : Int) < (a5 : Int) := by omega
        have HR : Hid (NumR bs at_ 0 N) := by show NumR bs at_ 0 N; rw [l1]; exact numI_none (unhide HI) (by clear hw5; omega)
        clear HI l1 l2 l3 l4 j1 j2 j3 j4 ha5 hlt h5 za
        go_wp2_with fail
        go_ret2
        exact ⟨0, N, rfl, rfl, HR⟩
    · have z1 : ¬ (i : Int) < (N : Int) := by omega
      have HR : Hid (NumR bs at_ 0 N) := by show NumR bs at_ 0 N; rw [l1]; exact numI_none (unhide HI) (by clear hw5; omega)
      clear HI l1 l2 l3 l4 j1 j2 j3 j4 ha5 hlt za hw5
      go_wp2_with fail
      go_ret2
      exact ⟨0, N, rfl, rfl, HR⟩
end W16

namespace W16
open Go.RowKit Go.Maps
set_option maxHeartbeats 4000000 in
set_option maxRecDepth 100000 in
theorem errorR {w : World} {ev : Value} (F T : Int) (u : Nat) {es : List Int} (h : Lies i64v w ev es) :
    Calls Tryz.prog 35 #[.agg #[.int .i64 F, .int .i64 T, .int .u32 (u : Nat), ev]] w fun e w' => e = .returned (.int .i64 (errC (F, T, u, es))) ∧ Hid (Below w.heap.size w w') := by
  obtain ⟨a, c, hv⟩ := lies_shape h; obtain ⟨n, hn⟩ : ∃ n, n = es.length := ⟨_, rfl⟩; rw [← hn] at hv; subst hv; have hb := below_new w (oV F T u (.slice a n c)); obtain ⟨c0, c1, c2, c3⟩ := oV_cells (heap_alloc_new w (oV F T u (.slice a n c))); have h1 := lies_below h hb; have HB := hide hb
  by_cases hlen : 1024 < n
  · have hE : errC (F, T, u, es) = 3 := by unfold errC; rw [if_pos (by rw [← hn]; exact hlen)]
    rw [hE]; have z1 : (n : Int) > 1024 := by omega
    clear h h1 hb hn hlen hE; unfold oV at *
    go_enter Tryz.func35, Tryz.ntmps35
    go_wp2_with fail
    go_ret
    exact ⟨rfl, HB⟩
  · have z1 : ¬ (n : Int) > 1024 := by omega
    have hE : errC (F, T, u, es) = if ((vertexB F && vertexB T) && es.all edgeB) = true then 0 else 1 := by
      unfold errC; rw [if_neg (by rw [← hn]; exact hlen), rangeB_eq]
    generalize hr : errC (F, T, u, es) = r at *; clear hr
    by_cases q1 : F < 0
    · have e1 : vertexB F = false := by unfold vertexB; simp; omega
      rw [e1] at hE; obtain rfl : r = 1 := by simpa using hE
      clear h h1 hb hn hlen hE e1; unfold oV at *
      go_enter Tryz.func35, Tryz.ntmps35
      go_wp2_with fail
      go_ret
      exact ⟨rfl, HB⟩
    · by_cases q2 : F > 2147483647
      · have e1 : vertexB F = false := by unfold vertexB; simp; omega
        rw [e1] at hE; obtain rfl : r = 1 := by simpa using hE
        clear h h1 hb hn hlen hE e1; unfold oV at *
        go_enter Tryz.func35, Tryz.ntmps35
        go_wp2_with fail
        go_ret
        exact ⟨rfl, HB⟩
      · have e1 : vertexB F = true := by unfold vertexB; simp; omega
        rw [e1, Bool.true_and] at hE
        by_cases q3 : T < 0
        · have e2 : vertexB T = false := by unfold vertexB; simp; omega
          rw [e2] at hE; obtain rfl : r = 1 := by simpa using hE
          clear h h1 hb hn hlen hE e1 e2; unfold oV at *
          go_enter Tryz.func35, Tryz.ntmps35
          go_wp2_with fail
          go_ret
          exact ⟨rfl, HB⟩
        · by_cases q4 : T > 2147483647
          · have e2 : vertexB T = false := by unfold vertexB; simp; omega
            rw [e2] at hE; obtain rfl : r = 1 := by simpa using hE
            clear h h1 hb hn hlen hE e1 e2; unfold oV at *
            go_enter Tryz.func35, Tryz.ntmps35
            go_wp2_with fail
            go_ret
            exact ⟨rfl, HB⟩
          · have e2 : vertexB T = true := by unfold vertexB; simp; omega
            rw [e2, Bool.true_and] at hE; have HE : Hid (AllE es true → r = 0) := fun h => by rw [hE, show es.all edgeB = true from h, if_pos rfl]
            have HE1 : Hid (AllE es false → r = 1) := fun h => by rw [hE, show es.all edgeB = false from h, if_neg (by simp)]
            have HN : Hid (n = es.length ∧ n ≤ 1024) := ⟨hn, by omega⟩
            have H1 := hide h1; clear h h1 hb hn hlen hE e1 e2; unfold oV at *
            go_enter Tryz.func35, Tryz.ntmps35
            go_wp2_with fail
            generalize w.alloc (Obj.cells #[Value.int .i64 F, Value.int .i64 T, Value.int .u32 (u : Nat), Value.slice a n c] 35) = wa at *
            go_loopw [3] (fun s3 wr => ∃ i : Nat, s3 = .int .i64 (i : Nat) ∧ wr = wa ∧ Hid (i ≤ n ∧ AllE (es.take i) true)) (fun s3 _ => n - (intOf s3).toNat)
            case atStart => exact ⟨0, rfl, rfl, Nat.zero_le _, rfl⟩
            case round =>
              obtain ⟨i, rfl, rfl, HI⟩ := hrel; obtain ⟨i1, i2⟩ := unhide HI; obtain ⟨l1, l2⟩ := unhide HN
              by_cases hlt : i < n
              · obtain ⟨x, hx⟩ : ∃ x, es[i]? = some x := ⟨_, List.getElem?_eq_getElem (by omega)⟩
                obtain ⟨b, off, rfl, k0⟩ := lies_at (unhide H1) hx; have z2 : (i : Int) < (n : Int) := by omega
                have hm : x ∈ es := List.mem_of_getElem? hx; have hbad : edgeB x = false → r = 1 := fun e => unhide HE1 (by
                  cases q : es.all edgeB with
                  | false => exact q
                  | true => rw [List.all_eq_true.1 q x hm] at e; cases e)
                unfold i64v at k0
                by_cases p1 : x < 1
                · have HR := hide (hbad (by unfold edgeB; simp; omega))
                  clear HI i1 i2 l1 l2 hlt hx hm hbad
                  go_wp2_with fail
                  go_ret
                  exact ⟨by rw [unhide HR]; rfl, HB⟩
                · by_cases p2 : x > 1024
                  · have HR := hide (hbad (by unfold edgeB; simp; omega))
                    clear HI i1 i2 l1 l2 hlt hx hm hbad
                    go_wp2_with fail
                    go_ret
                    exact ⟨by rw [unhide HR]; rfl, HB⟩
                  · obtain ⟨j, hj⟩ : ∃ j, j = i + 1 := ⟨_, rfl⟩; have zw : Hid ((i : Int) + 1 = (j : Int)) := by show (i : Int) + 1 = (j : Int); omega
                    have HJ : Hid (j ≤ n ∧ AllE (es.take j) true ∧ n - j < n - i) := ⟨by omega, by
                      have e : es.take j = es.take i ++ [x] := by rw [hj, List.take_add_one, hx]; rfl
                      show (es.take j).all edgeB = true; have i2' : (es.take i).all edgeB = true := i2; rw [e, List.all_append, i2']; simp [edgeB]; omega, by omega⟩
                    clear HI i1 i2 l1 l2 hlt hx hm hbad hj
                    go_wp2_with fail
                    exact ⟨⟨j, by rw [unhide zw], trivial, (unhide HJ).1, (unhide HJ).2.1⟩, by rw [unhide zw]; exact (unhide HJ).2.2⟩
              · have z2 : ¬ (i : Int) < (n : Int) := by omega
                have HR : Hid (r = 0) := unhide HE (by rw [List.take_of_length_le (by omega)] at i2; exact i2)
                clear HI i1 i2 l1 l2 hlt
                go_wp2_with fail
                go_ret
                exact ⟨by rw [unhide HR]; rfl, HB⟩
end W16

namespace W16
open Go.RowKit Go.Maps
theorem below_grows {B : Nat} {w w' : World} {v' : Value} {bs : List Nat} (h : Grows B w (.slice none 0 0) w' v' bs) : Below w.heap.size w w' := h.2.1.below (Nat.le_refl _) (fun k e => by cases e)
set_option maxHeartbeats 2000000 in
set_option maxRecDepth 100000 in
theorem numberR {n : Nat} (w : World) (hn : n < 34359738368) :
    Calls Tryz.prog 78 #[.int .i64 (n : Nat)] w fun e w' => ∃ v', e = .returned v' ∧ Hid (Grows w.heap.size w (.slice none 0 0) w' v' (nb n)) := by
  have h5 := nb_len 4 n (by simpa using hn)
  have HN : Hid (n < 34359738368 ∧ (nb n).length ≤ 5) := ⟨hn, h5⟩; clear hn h5
  go_enter Tryz.func78, Tryz.ntmps78
  go_wp2_with fail
  go_loopw [0, 3] (fun s1 s0 wr => ∃ (m a' n' c' : _) (ys : List Nat), s0 = .slice a' n' c' ∧ s1 = .int .i64 (m : Nat) ∧ Hid (nb n = ys ++ nb m ∧ m ≤ n ∧ Grows w.heap.size w (.slice none 0 0) wr (.slice a' n' c') ys)) (fun s1 _ _ => (intOf s1).toNat)
  case atStart => exact ⟨n, none, 0, 0, [], rfl, rfl, rfl, Nat.le_refl _, Grows.refl ⟨rfl, .inl ⟨rfl, rfl⟩⟩⟩
  case round =>
    obtain ⟨m, a', n', c', ys, rfl, rfl, HI⟩ := hrel; obtain ⟨i1, i2, i3⟩ := unhide HI; obtain ⟨n1, n2⟩ := unhide HN; have hy : ys.length + (nb m).length ≤ 5 := by rw [← List.length_append, ← i1]; exact n2
    have hby : w.heap.size ≤ wr.heap.size := i3.2.1.size; have hyl : ys.length < 1000000 := by omega
    by_cases hlt : m < 128
    · obtain ⟨a2, m2, c2, w2, hr, g1, g2, g3⟩ := run_app1B m i3.1 hby hyl; have HR := hide hr; have HG : Hid (Grows w.heap.size w (.slice none 0 0) w2 (.slice a2 m2 c2) (nb n)) := by
        have : Grows w.heap.size wr (.slice a' n' c') w2 (.slice a2 m2 c2) (nb n) := ⟨by rw [i1, nb_lt hlt]; exact g1, g2, g3⟩
        exact i3.trans this
      have z1 : ¬ (m : Int) ≥ 128 := by omega
      have z2 : IntKind.wrap .u8 (m : Int) = (m : Int) := by unfold IntKind.wrap; simp [IntKind.signed, IntKind.bits]; omega
      clear HI i1 i2 i3 n1 n2 hy hby hyl hlt hr g1 g2 g3
      go_wp2_with (at_builtin; refine Lib.wpList_append_run _ rfl _ _ 23 23 rfl _ _ rfl rfl _ _ (unhide HR _) ?_)
      go_ret
      exact ⟨_, rfl, HG⟩
    · obtain ⟨d, hd⟩ : ∃ d, d = m % 128 + 128 := ⟨_, rfl⟩; obtain ⟨q, hq⟩ : ∃ q, q = m / 128 := ⟨_, rfl⟩; obtain ⟨a2, m2, c2, w2, hr, g1, g2, g3⟩ := run_app1B d i3.1 hby hyl; have HR := hide hr; have HG : Hid (nb n = (ys ++ [d]) ++ nb q ∧ q ≤ n ∧ q < m ∧ Grows w.heap.size w (.slice none 0 0) w2 (.slice a2 m2 c2) (ys ++ [d])) := by
        have : Grows w.heap.size wr (.slice a' n' c') w2 (.slice a2 m2 c2) (ys ++ [d]) := ⟨g1, g2, g3⟩; exact ⟨by rw [i1, nb_ge hlt, hd, hq, List.append_assoc]; rfl, by omega, by omega, i3.trans this⟩
      have z1 : (m : Int) ≥ 128 := by omega
      have ed : ((d : Nat) : Int) = (m : Int) % 128 + 128 := by omega
      have eq' : ((q : Nat) : Int) = (m : Int) / 128 := by omega
      rw [ed] at HR; have HQ : Hid (wrap64 ((m : Int) / 128) = (q : Int)) := by show wrap64 ((m : Int) / 128) = (q : Int); unfold wrap64; omega
      clear HI i1 i2 i3 n1 n2 hy hby hyl hlt hr g1 g2 g3 hd ed eq' hq
      go_wp2_with (at_builtin; refine Lib.wpList_append_run _ rfl _ _ 23 23 rfl _ _ rfl rfl _ _ (unhide HR _) ?_)
      exact ⟨⟨q, a2, m2, c2, ys ++ [d], rfl, by rw [unhide HQ], (unhide HG).1, (unhide HG).2.1, (unhide HG).2.2.2⟩, by rw [unhide HQ]; have h2 := (unhide HG).2.2.1; simp only [intOf]; omega⟩
end W16

end Go.Proofs.YtagibmgbjhemkaaGreat
