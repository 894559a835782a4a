/- Decode: what is read, or the error where the reader gives up. -/
import Derived.Test.YtagibmgbjhemkaaGreatWm16
import Derived.Defers
import Derived.Recover
namespace Go.Proofs.YtagibmgbjhemkaaGreat

namespace W16
open Go.RowKit Go.Maps
theorem ans_read {p : Nat} {ob : Option Nat} {w w' : World} {r : Option (Nat × List Nat)} {e : Ending} (h : NumAns p ob w r e w') : (r = none ∧ e = .panicked gaveUp ∧ Reads p w w') ∨ ∃ x t, r = some (x, t) ∧ e = .returned (.int .i64 (x : Nat)) ∧ Reads p w w' ∧ ∃ v', RdAt w' p v' t ∧ v'.ownBlock = ob := by
  cases r with
  | none => exact .inl ⟨rfl, h⟩
  | some q => exact .inr ⟨q.1, q.2, rfl, h⟩
def OkB (t : List Nat) : Prop := (∀ x ∈ t, x < 256) ∧ t.length ≤ 140737488355328
theorem okB_rd {lo hi x : Nat} {bs t : List Nat} (h : OkB bs) (hr : rdN lo hi 0 0 bs = some (x, t)) : OkB t ∧ x ≤ hi := by
  obtain ⟨e, -, h2⟩ := rdN0_some h.1 hr; exact ⟨⟨fun y hy => h.1 y (by rw [e]; simp [hy]), by have := congrArg List.length e; rw [List.length_append] at this; have := h.2; omega⟩, h2⟩
theorem okB_rdB {u : Nat} {bs t : List Nat} (h : OkB bs) (hr : rdB bs = some (u, t)) : OkB t ∧ u < 4294967296 := by
  obtain ⟨e, h2⟩ := rdB_some h.1 hr; exact ⟨⟨fun y hy => h.1 y (by rw [e]; simp [hy]), by have := congrArg List.length e; rw [List.length_append] at this; have := h.2; omega⟩, h2⟩
theorem ans_bits {p : Nat} {ob : Option Nat} {w w' : World} {r : Option (Nat × List Nat)} {e : Ending} (h : BitAns p ob w r e w') : (r = none ∧ e = .panicked gaveUp ∧ Reads p w w') ∨ ∃ x t, r = some (x, t) ∧ e = .returned (.int .u32 (x : Nat)) ∧ Reads p w w' ∧ ∃ v', RdAt w' p v' t ∧ v'.ownBlock = ob := by
  cases r with
  | none => exact .inl ⟨rfl, h⟩
  | some q => exact .inr ⟨q.1, q.2, rfl, h⟩
set_option maxHeartbeats 4000000 in
set_option maxRecDepth 100000 in
theorem witnessS {w : World} {p : Nat} {v : Value} {bs : List Nat} (h : RdAt w p v bs) (hb : ∀ x ∈ bs, x < 256) (hl : bs.length ≤ 140737488355328) (ho : ∀ g, v.ownBlock = some g → g < w.heap.size) :
    Calls Tryz.prog 53 #[.pointer (some ⟨p, 0, none⟩)] w fun e w' => Hid (WitAns p w (dec bs) e w') := by
  have CU : Hid (∀ W : World, Calls Tryz.prog 88 #[] W fun e w' => e = .panicked gaveUp ∧ w' = W) := fun W => giveUpS W
  have h0 := rd_turned (S := fun _ => False) h (turned_of_below (below_new w (oW 0 0 0 (.slice none 0 0)))) id (fun _ _ => id)
  have hp := heap_lt h.1; have hR0 : Hid (∀ W, Reads p (w.alloc (oW 0 0 0 (.slice none 0 0))) W → Reads p w W) := fun W h => (turned_of_below (below_new w (oW 0 0 0 (.slice none 0 0)))).trans h
  obtain ⟨r0, hr0⟩ : ∃ r0, r0 = w.heap.size := ⟨_, rfl⟩; have HO := hide ho; have HR0 := hide hr0
  cases bs with
  | nil =>
    have CN := hide (next0S h0); have HG : Hid (∀ W, Reads p (w.alloc (oW 0 0 0 (.slice none 0 0))) W → WitAns p w (dec []) (.panicked gaveUp) W) := fun W h => ⟨rfl, unhide hR0 W h⟩
    clear h0 h hb hl ho hr0 HO HR0 hR0 hp; unfold oW at *; generalize gaveUp = gu at *
    go_enter Tryz.func53, Tryz.ntmps53
    go_wp2_with fail
    refine (unhide CN).mono ?_
    rintro e w1 ⟨rfl, rfl⟩
    exact ⟨rfl, unhide HG _ (Turned.refl _ _)⟩
  | cons x t =>
    have CN := hide (next1S h0); rw [dec_cons]; have hx : x < 256 := hb x (by simp)
    by_cases h183 : x = 183
    · subst h183; rw [if_pos rfl]; have HB : Hid (OkB t) := ⟨fun y hy => hb y (by simp [hy]), by rw [List.length_cons] at hl; omega⟩
      generalize hR : D1 t = R; have HR := hide hR; have hp' := hide hp; clear h0 h hb hl ho hr0 hx hp hR; have HW : Hid (∀ W, Reads p (w.alloc (oW 0 0 0 (.slice none 0 0))) W → (∃ v1, RdAt W p v1 t ∧ v1.ownBlock = v.ownBlock) → WS w p r0 W.heap.size v.ownBlock (W.alloc (oW 0 0 0 (.slice none 0 0))) t 0 0 0 (.slice none 0 0) []) := fun W h1 h2 => ws_start (unhide hp') (unhide HO) (unhide HR0) h1 h2
      unfold oW u8v at *
      go_enter Tryz.func53, Tryz.ntmps53
      go_wp2_with fail
      refine (unhide CN).mono ?_
      rintro e w1 ⟨rfl, v1, H1⟩
      have S0 := unhide HW _ (unhide H1).2.1 ⟨v1, (unhide H1).1, (unhide H1).2.2⟩; clear HW H1 CN
      go_upto_region 4 with fail
      rw [← unhide HR0]; generalize w1.alloc (Obj.cells #[Value.int .i64 0, Value.int .i64 0, Value.int .u32 (0 : Nat), Value.slice none 0 0] 35) = wa at *; generalize w1.heap.size = b3 at *; generalize v.ownBlock = ob at *
      -- step 1
      obtain ⟨v1, r1, r2⟩ := S0.rd; have CN := hide (numberS 0 2147483647 r1 (unhide HB).1 (unhide HB).2 (by omega) (by omega))
      rw [r2] at CN; have HS := hide S0; clear S0 r1 r2 v1
      go_wp2_with fail
      refine (unhide CN).mono ?_; intro e w1 HA; rcases ans_read (unhide HA) with ⟨hn, rfl, hr⟩ | ⟨x1, t1, hn, rfl, hr, hv⟩
      · have HG : Hid (WitAns p w R (.panicked gaveUp) w1) := by
          have hR := unhide HR; unfold D1 at hR; rw [hn] at hR; rw [← hR]; exact ⟨rfl, (unhide HS).t.trans hr⟩
        exact ⟨rfl, HG⟩
      have S1 := (unhide HS).read hr hv
      replace HB : Hid (OkB t1) := (okB_rd (unhide HB) hn).1
      replace HR : Hid (D2 (x1 : Nat) t1 = R) := by
        have hR := unhide HR; unfold D1 at hR; rw [hn] at hR; exact hR
      obtain ⟨⟨c0, c1, c2, c3⟩, f0, f1, f2, f3⟩ := oW_cells S1.box; clear hr hv hn HA HS CN wa
      go_upto_region 5 with fail
      replace S1 := S1.put0 (x1 : Nat)
      clear c0 c1 c2 c3 f0 f1 f2 f3; generalize w1.setCell ⟨b3, 0, none⟩ (.int .i64 (x1 : Nat)) = wa at *; clear w1
      -- step 2
      obtain ⟨v1, r1, r2⟩ := S1.rd; have CN := hide (numberS 0 2147483647 r1 (unhide HB).1 (unhide HB).2 (by omega) (by omega))
      rw [r2] at CN; have HS := hide S1; clear S1 r1 r2 v1
      go_wp2_with fail
      refine (unhide CN).mono ?_; intro e w1 HA; rcases ans_read (unhide HA) with ⟨hn, rfl, hr⟩ | ⟨x2, t2, hn, rfl, hr, hv⟩
      · have HG : Hid (WitAns p w R (.panicked gaveUp) w1) := by
          have hR := unhide HR; unfold D2 at hR; rw [hn] at hR; rw [← hR]; exact ⟨rfl, (unhide HS).t.trans hr⟩
        exact ⟨rfl, HG⟩
      have S1 := (unhide HS).read hr hv
      replace HB : Hid (OkB t2) := (okB_rd (unhide HB) hn).1
      replace HR : Hid (D3 (x1 : Nat) (x2 : Nat) t2 = R) := by
        have hR := unhide HR; unfold D2 at hR; rw [hn] at hR; exact hR
      obtain ⟨⟨c0, c1, c2, c3⟩, f0, f1, f2, f3⟩ := oW_cells S1.box; clear hr hv hn HA HS CN wa t1
      go_upto_region 6 with fail
      replace S1 := S1.put1 (x2 : Nat)
      clear c0 c1 c2 c3 f0 f1 f2 f3; generalize w1.setCell ⟨b3, 1, none⟩ (.int .i64 (x2 : Nat)) = wa at *; clear w1
      -- step 3
      obtain ⟨v1, r1, r2⟩ := S1.rd; have CN := hide (bitsS r1 (unhide HB).1); rw [r2] at CN; have HS := hide S1; clear S1 r1 r2 v1
      go_wp2_with fail
      refine (unhide CN).mono ?_; intro e w1 HA; rcases ans_bits (unhide HA) with ⟨hn, rfl, hr⟩ | ⟨x3, t3, hn, rfl, hr, hv⟩
      · have HG : Hid (WitAns p w R (.panicked gaveUp) w1) := by
          have hR := unhide HR; unfold D3 at hR; rw [hn] at hR; rw [← hR]; exact ⟨rfl, (unhide HS).t.trans hr⟩
        exact ⟨rfl, HG⟩
      have S1 := (unhide HS).read hr hv
      replace HB : Hid (OkB t3) := (okB_rdB (unhide HB) hn).1
      replace HR : Hid (D4 (x1 : Nat) (x2 : Nat) x3 t3 = R) := by
        have hR := unhide HR; unfold D3 at hR; rw [hn] at hR; exact hR
      obtain ⟨⟨c0, c1, c2, c3⟩, f0, f1, f2, f3⟩ := oW_cells S1.box; clear hr hv hn HA HS CN wa t2
      go_upto_region 7 with fail
      replace S1 := S1.put2 x3
      clear c0 c1 c2 c3 f0 f1 f2 f3; generalize w1.setCell ⟨b3, 2, none⟩ (.int .u32 (x3 : Nat)) = wa at *; clear w1
      -- step 4
      obtain ⟨v1, r1, r2⟩ := S1.rd; have CN := hide (numberS 0 1024 r1 (unhide HB).1 (unhide HB).2 (by omega) (by omega))
      rw [r2] at CN; have HS := hide S1; clear S1 r1 r2 v1
      go_wp2_with fail
      refine (unhide CN).mono ?_; intro e w1 HA; rcases ans_read (unhide HA) with ⟨hn, rfl, hr⟩ | ⟨x4, t4, hn, rfl, hr, hv⟩
      · have HG : Hid (WitAns p w R (.panicked gaveUp) w1) := by
          have hR := unhide HR; unfold D4 at hR; rw [hn] at hR; rw [← hR]; exact ⟨rfl, (unhide HS).t.trans hr⟩
        exact ⟨rfl, HG⟩
      have S1 := (unhide HS).read hr hv; have HK4 := hide (okB_rd (unhide HB) hn).2
      replace HB : Hid (OkB t4) := (okB_rd (unhide HB) hn).1
      replace HR : Hid (DE (x1 : Nat) (x2 : Nat) x3 x4 [] t4 = R) := by
        have hR := unhide HR; unfold D4 at hR; rw [hn] at hR; exact hR
      have HS1 : Hid (LI w p r0 b3 ob R (x1 : Nat) (x2 : Nat) x3 x4 w1 0 t4 (.slice none 0 0) []) := ⟨Nat.zero_le _, rfl, unhide HB, unhide HR, S1⟩; have HK : Hid (x4 ≤ 1024) := HK4; generalize ((x1 : Nat) : Int) = F at *; generalize ((x2 : Nat) : Int) = T at *; clear hr hv hn HA HS CN wa t3 S1 HB HR hR0 HO HR0 HK4 hp'
      go_wp2_with fail
      go_loopw [19] (fun s19 wr => ∃ (i : Nat) (bs' : List Nat) (ev : Value) (es : List Int), s19 = .int .i64 (i : Nat) ∧ Hid (LI w p r0 b3 ob R F T x3 x4 wr i bs' ev es)) (fun s19 _ => x4 - (intOf s19).toNat)
      case atStart => exact ⟨0, t4, .slice none 0 0, [], rfl, HS1⟩
      case round =>
        obtain ⟨i, bs', ev, es, rfl, HI⟩ := hrel; obtain ⟨i1, i2, i3, i4, S⟩ := unhide HI; have hk := unhide HK
        by_cases hlt : i < x4
        · have z1 : (i : Int) < (x4 : Int) := by omega
          obtain ⟨⟨-, -, -, c3⟩, -⟩ := oW_cells S.drew.box; obtain ⟨v1, r1, r2⟩ := S.drew.rd; have CN := hide (numberS 1 1024 r1 i3.1 i3.2 (by omega) (by omega))
          rw [r2] at CN; have HS := hide S.drew; obtain ⟨q, hq⟩ : ∃ q, x4 - i = q + 1 := ⟨x4 - i - 1, by omega⟩
          rw [hq, DE_step] at i4
          cases hn : rdN 1 1024 0 0 bs' with
          | none =>
            rw [hn] at CN i4; have HG : Hid (∀ W, Reads p wr.drew W → WitAns p w R (.panicked gaveUp) W) := fun W hW => by
              rw [← i4]; exact ⟨rfl, (unhide HS).t.trans hW⟩
            clear HI i1 i2 i3 i4 S hlt hk r1 r2 HS hq hn HS1
            go_upto_region 9 with fail
            refine regionL [] (fun y => y.cell? ⟨b3, 3, none⟩ = some ev) (by kernel_rfl) c3 (fun hHeld => ?_)
            refine takeN 0 21 rfl ?_
            (try simp only [sl])
            refine takeN 1 22 rfl ?_
            (try simp only [sl])
            refine takeN 2 23 rfl ?_
            (try simp only [sl])
            refine readyL (i := 3) (by kernel_rfl) rfl (fun K hK => ?_)
            go_simp
            refine (unhide CN).mono ?_; intro e w2 HA; obtain ⟨rfl, hr⟩ : e = .panicked gaveUp ∧ Reads p wr.drew w2 := unhide HA; exact ⟨rfl, unhide HG _ hr⟩
          | some xt =>
            obtain ⟨x, t⟩ := xt; rw [hn] at CN i4; obtain ⟨k3, -⟩ := okB_rd i3 hn; have HJ : Hid (i + 1 ≤ x4 ∧ (es ++ [(x : Int)]).length = i + 1 ∧ OkB t ∧ DE F T x3 (x4 - (i + 1)) (es ++ [(x : Int)]) t = R ∧ x4 - (i + 1) < x4 - i ∧ es.length ≤ 2000) := ⟨by omega, by simp [i2], k3, by rw [show x4 - (i + 1) = q by omega]; exact i4, by omega, by omega⟩
            obtain ⟨j, hj⟩ : ∃ j, j = i + 1 := ⟨_, rfl⟩; have zj : Hid (wrap64 ((i : Int) + 1) = (j : Int)) := by show wrap64 ((i : Int) + 1) = (j : Int); unfold wrap64; omega
            rw [← hj] at HJ; clear HI i1 i2 i3 i4 S hlt hk r1 r2 hq hn HS1 k3 hj
            go_upto_region 9 with fail
            refine wp_region_noPanic ?_; refine regionL [7] (fun y => y.cell? ⟨b3, 3, none⟩ = some ev) (by kernel_rfl) c3 (fun hHeld => ?_)
            refine takeN 0 21 rfl ?_
            (try simp only [sl])
            refine takeN 1 22 rfl ?_
            (try simp only [sl])
            refine takeN 2 23 rfl ?_
            (try simp only [sl])
            refine readyL (i := 3) (by kernel_rfl) rfl (fun K hK => ?_)
            go_simp
            refine (unhide CN).mono ?_; intro e w2 HA; obtain ⟨rfl, hr, hv⟩ : e = .returned (.int .i64 (x : Nat)) ∧ Reads p wr.drew w2 ∧ ∃ v', RdAt w2 p v' t ∧ v'.ownBlock = ob := unhide HA
            (try dsimp only)
            have S1 := (unhide HS).read hr hv; obtain ⟨⟨-, -, -, c4⟩, -⟩ := oW_cells S1.box; obtain ⟨a', n', c', w3, hr3, h31, h32, S3⟩ := S1.push (x : Nat) (unhide HJ).2.2.2.2.2; have HR3 := hide hr3; have c5 : (w2.alloc (.cells #[.int .i64 (x : Nat)] 3)).cell? ⟨b3, 3, none⟩ = some ev := (cell_of_heap ((below_new w2 (.cells #[.int .i64 (x : Nat)] 3)).block b3 (heap_lt S1.box))).trans c4; have HS3 := hide S3; clear S1 S3 hr hv HA HS CN hr3; refine hK.out _ _ (fun _ => c4) ?_
            clear hK K
            (try simp only [sl])
            have hH6 := c4; refine readyL (i := 4) (by kernel_rfl) rfl (fun K hK => ?_)
            go_simp
            refine hK.out _ _ (fun _ => c5) ?_
            clear hK K
            (try simp only [sl])
            have hH8 := c5; refine readyL (i := 5) (by kernel_rfl) rfl (fun K hK => ?_)
            refine step_append_run rfl (.tmp 22) (.tmp 25) 25 rfl _ _ (by simp [Act.eval]) (by simp [Act.eval]) _ _ (unhide HR3 _) ?_
            refine hK.out _ _ (fun _ => h31) ?_
            clear hK K
            (try simp only [sl])
            have hH9 := h31; refine takeN 6 27 rfl ?_
            (try simp only [sl])
            refine readyL (i := 7) (by kernel_rfl) rfl (fun K hK => ?_)
            go_simp
            refine hK.out _ _ (fun h => by cases h) ?_
            clear hK K
            (try simp only [sl])
            refine doneL (by kernel_rfl) ?_ _
            refine NoPanic.normal ?_
            go_wp2_with fail
            obtain ⟨u1, u2, u3, u4, u5, u6⟩ := unhide HJ; exact ⟨⟨j, t, _, _, by rw [unhide zj], u1, u2, u3, u4, unhide HS3⟩, by rw [unhide zj]; exact u5⟩
        · have z1 : ¬ (i : Int) < (x4 : Int) := by omega
          rw [show x4 - i = 0 by omega, DE_zero] at i4
          obtain ⟨v1, r1, r2⟩ := S.rd; obtain ⟨c0, -⟩ := rd_cell r1; obtain ⟨a, c, rfl⟩ := lies_shape r1.2.1; obtain ⟨ea, ec, hev⟩ := rrow_shape S.row; generalize es.length = en at hev; subst hev; obtain ⟨⟨d0, d1, d2, d3⟩, -⟩ := oW_cells S.box; obtain ⟨⟨e0, e1, e2, e3⟩, g0, g1, g2, g3⟩ := oW_cells S.res; have HS := hide S
          cases bs' with
          | nil =>
            rw [if_pos rfl] at i4; have HR4 := hide i4; simp only [List.length_nil] at c0; clear HI i1 i2 i3 i4 S hlt hk r1 r2 HS1
            go_wp2_with fail
            obtain ⟨u1, u2, u3⟩ := (unhide HS).done; refine bodyPost_ret (results_cell1 rfl _ _ _ ⟨r0, 0, none⟩ _ rfl u1) rfl ?_; show WitAns p w R _ _; rw [← unhide HR4]; exact ⟨_, rfl, u2, u3⟩
          | cons y t =>
            rw [if_neg (by simp)] at i4
            have HG : Hid (WitAns p w R (.panicked gaveUp) wr) := by rw [← i4]; exact ⟨rfl, S.t⟩
            obtain ⟨n, hn⟩ : ∃ n, n = (y :: t).length := ⟨_, rfl⟩; rw [← hn] at c0; have z2 : (n : Int) > 0 := by rw [List.length_cons] at hn; omega
            clear HI i1 i2 i3 i4 S hlt hk r1 r2 HS1 hn HS
            go_wp2_with fail
            refine (unhide CU _).mono ?_
            rintro e w2 ⟨rfl, rfl⟩
            exact ⟨rfl, HG⟩
    · rw [if_neg h183]; have HG : Hid (∀ W, Reads p (w.alloc (oW 0 0 0 (.slice none 0 0))) W → WitAns p w none (.panicked gaveUp) W) := fun W h => ⟨rfl, unhide hR0 W h⟩
      have z1 : ((x : Int) == 183) = false := by simp; omega
      clear h0 h hb hl ho hr0 HO HR0 hR0 hx h183 hp; unfold oW u8v at *; generalize gaveUp = gu at *
      go_enter Tryz.func53, Tryz.ntmps53
      go_wp2_with fail
      refine (unhide CN).mono ?_
      rintro e w1 ⟨rfl, v1, H1⟩
      go_wp2_with fail
      refine (unhide CU _).mono ?_
      rintro e w2 ⟨rfl, rfl⟩
      exact ⟨rfl, unhide HG _ (unhide H1).2.1⟩
end W16

namespace W16
open Go.RowKit Go.Maps
def oE (e : Int) : Obj := .cells #[.int .i64 e] 36
theorem catchPanics (p q : Nat) (a b c d : Value) (x : Int) (w : World) (hp : w.heap[p]? = some (.cells #[a, b, c, d] 35 (0, 0))) (hq : w.heap[q]? = some (oE x)) (_ : p ≠ q) :
    CallsD Tryz.prog 52 #[.pointer (some ⟨p, 0, none⟩), .pointer (some ⟨q, 0, none⟩)] (.panicking gaveUp) w fun e u' w' =>
      e = .returned (.tuple #[]) ∧ u' = .panicking [{ v := .iface 36 (.int .i64 160), recovered := true }] ∧ w' = (set4 w p (.int .i64 0) (.int .i64 0) (.int .u32 0) (.slice none 0 0)).setCell ⟨q, 0, none⟩ (.int .i64 160) := by
  unfold gaveUp oE set4 at *; have c0 := (cell_of_row _ _ 0 _ _ (0, 0) hp).trans (show #[a, b, c, d][0]? = some a from rfl)
  have c1 := (cell_of_row _ _ 1 _ _ (0, 0) hp).trans (show #[a, b, c, d][1]? = some b from rfl)
  have c2 := (cell_of_row _ _ 2 _ _ (0, 0) hp).trans (show #[a, b, c, d][2]? = some c from rfl)
  have c3 := (cell_of_row _ _ 3 _ _ (0, 0) hp).trans (show #[a, b, c, d][3]? = some d from rfl)
  have f0 := frozen_of_row _ _ 0 _ _ hp; have f1 := frozen_of_row _ _ 1 _ _ hp; have f2 := frozen_of_row _ _ 2 _ _ hp; have f3 := frozen_of_row _ _ 3 _ _ hp; have d0 := (cell_of_row _ _ 0 _ _ (0, 0) hq).trans (show #[Value.int .i64 x][0]? = some (.int .i64 x) from rfl)
  have g0 := frozen_of_row _ _ 0 _ _ hq; refine callsD_of_wpS Tryz.func52 rfl fun c₀ cs hu => ?_
  apply wpS_seq; apply wpS_region; simp [wpOpsS, go_sem, recoverD, hu, Tryz.ntmps52, Exit.thenS]; refine wpS_cond (t := true) (by simp [Act.eval, Array.replicate]) ?_
  simp only [if_true]; apply wpS_region; simp [wpOpsS, go_sem, c0, c1, c2, c3, f0, f1, f2, f3, d0, g0, bodyPostS, results, Tryz.results52]
theorem catchIdle (p q : Addr) (w : World) :
    CallsD Tryz.prog 52 #[.pointer (some p), .pointer (some q)] .returning w fun e u' w' => e = .returned (.tuple #[]) ∧ u' = .returning ∧ w' = w := by
  refine callsD_of_wpS Tryz.func52 rfl fun c₀ cs hu => ?_
  apply wpS_seq; apply wpS_region; simp [wpOpsS, go_sem, recoverD, hu, Tryz.ntmps52, Exit.thenS]; refine wpS_cond (t := false) (by simp [Act.eval, Array.replicate]) ?_
  simp only [Bool.false_eq_true, if_false]; refine wpS_of_wp (wp_skip ?_)
  cases c₀
  simp_all [bodyPostS, results, Tryz.results52]
theorem loadE (w : World) (g : Nat) (x : Int) (h : w.heap[g]? = some (oE x)) : (loadVar 36 ⟨g, 0, none⟩).run Tryz.prog w = .ok (.int .i64 x) w := by
  have c0 := (cell_of_row _ _ 0 _ _ (0, 0) h).trans (show #[Value.int .i64 x][0]? = some (.int .i64 x) from rfl)
  simp [go_sem, c0]
theorem three_boxes (w : World) (v : Value) : ((((w.alloc (oW 0 0 0 (.slice none 0 0))).alloc (oE 0)).alloc (.cells #[v] 109)).heap[w.heap.size]? = some (oW 0 0 0 (.slice none 0 0)) ∧ (((w.alloc (oW 0 0 0 (.slice none 0 0))).alloc (oE 0)).alloc (.cells #[v] 109)).heap[w.heap.size + 1]? = some (oE 0)) ∧
    (((w.alloc (oW 0 0 0 (.slice none 0 0))).alloc (oE 0)).alloc (.cells #[v] 109)).heap[w.heap.size + 2]? = some (.cells #[v] 109 (0, 0)) ∧ Below w.heap.size w (((w.alloc (oW 0 0 0 (.slice none 0 0))).alloc (oE 0)).alloc (.cells #[v] 109)) := by
  have s1 : (w.alloc (oW 0 0 0 (.slice none 0 0))).heap.size = w.heap.size + 1 := by simp
  have s2 : ((w.alloc (oW 0 0 0 (.slice none 0 0))).alloc (oE 0)).heap.size = w.heap.size + 2 := by simp
  have b1 := below_new w (oW 0 0 0 (.slice none 0 0)); have b2 := below_new (w.alloc (oW 0 0 0 (.slice none 0 0))) (oE 0); have b3 := below_new ((w.alloc (oW 0 0 0 (.slice none 0 0))).alloc (oE 0)) (.cells #[v] 109); refine ⟨⟨(b3.block _ (by omega)).trans ((b2.block _ (by omega)).trans (heap_alloc_new _ _)), (b3.block _ (by omega)).trans ?_⟩, ?_, (b1.trans (b2.mono (by omega))).trans (b3.mono (by omega))⟩
  · have := heap_alloc_new (w.alloc (oW 0 0 0 (.slice none 0 0))) (oE 0)
    rwa [s1] at this
  · have := heap_alloc_new ((w.alloc (oW 0 0 0 (.slice none 0 0))).alloc (oE 0)) (.cells #[v] 109)
    rwa [s2] at this
theorem dec_none_mem {w w3 w4 : World} {p q r : Nat} (hp : w3.heap[p]? = some (oW 0 0 0 (.slice none 0 0))) (hq : w3.heap[q]? = some (oE 0)) (hpq : p ≠ q) (hpr : p ≠ r) (hqr : q ≠ r) (hb : Below w.heap.size w w3) (hr : Reads r w3 w4) (h1 : w.heap.size ≤ p) (h2 : w.heap.size ≤ q) (h3 : w.heap.size ≤ r) :
    (w4.heap[p]? = some (oW 0 0 0 (.slice none 0 0)) ∧ w4.heap[q]? = some (oE 0)) ∧
    (loadVar 35 ⟨p, 0, none⟩).run Tryz.prog ((set4 w4 p (.int .i64 0) (.int .i64 0) (.int .u32 0) (.slice none 0 0)).setCell ⟨q, 0, none⟩ (.int .i64 160)) = .ok (.agg #[.int .i64 0, .int .i64 0, .int .u32 0, .slice none 0 0]) ((set4 w4 p (.int .i64 0) (.int .i64 0) (.int .u32 0) (.slice none 0 0)).setCell ⟨q, 0, none⟩ (.int .i64 160)) ∧
    (loadVar 36 ⟨q, 0, none⟩).run Tryz.prog ((set4 w4 p (.int .i64 0) (.int .i64 0) (.int .u32 0) (.slice none 0 0)).setCell ⟨q, 0, none⟩ (.int .i64 160)) = .ok (.int .i64 160) ((set4 w4 p (.int .i64 0) (.int .i64 0) (.int .u32 0) (.slice none 0 0)).setCell ⟨q, 0, none⟩ (.int .i64 160)) ∧
    Below w.heap.size w ((set4 w4 p (.int .i64 0) (.int .i64 0) (.int .u32 0) (.slice none 0 0)).setCell ⟨q, 0, none⟩ (.int .i64 160)) := by
  have e1 := (hr.block p (heap_lt hp) hpr).trans hp; have e2 := (hr.block q (heap_lt hq) hqr).trans hq; have hqp : q ≠ p := fun e => hpq e.symm
  have e3 := set4_at e1 (.int .i64 0) (.int .i64 0) (.int .u32 0) (.slice none 0 0); have e4 := (set4_other (w := w4) hqp (.int .i64 0) (.int .i64 0) (.int .u32 0) (.slice none 0 0)).trans e2; refine ⟨⟨e1, e2⟩, loadW _ _ _ _ _ _ ((heap_setCell_other _ _ _ _ hpq).trans e3), loadE _ _ _ ((heap_setCell_same _ _ _ _ _ _ e4).trans rfl), ?_⟩; have hw4 : Below w.heap.size w w4 := hb.trans (hr.below hb.size (fun k e => by omega))
  have h5 : Below w.heap.size w4 (set4 w4 p (.int .i64 0) (.int .i64 0) (.int .u32 0) (.slice none 0 0)) := (set4_turned (S := fun b => b = p) w4 rfl _ _ _ _).below hw4.size (fun k e => by omega)
  exact (hw4.trans h5).setCell (by exact h2) _
theorem dec_some_mem {w w3 w4 : World} {p q r : Nat} {F T : Int} {u : Nat} {ev : Value} {es : List Int} (hp : w3.heap[p]? = some (oW 0 0 0 (.slice none 0 0))) (hq : w3.heap[q]? = some (oE 0)) (hpq : p ≠ q) (hpr : p ≠ r) (hqr : q ≠ r) (hb : Below w.heap.size w w3) (hr : Reads r w3 w4) (h1 : w.heap.size ≤ p) (h2 : w.heap.size ≤ q) (h3 : w.heap.size ≤ r) (hn : NRow w3.heap.size w4 ev es) :
    (w4.heap[p]? = some (oW 0 0 0 (.slice none 0 0)) ∧ w4.heap[q]? = some (oE 0)) ∧
    (loadVar 35 ⟨p, 0, none⟩).run Tryz.prog ((set4 w4 p (.int .i64 F) (.int .i64 T) (.int .u32 (u : Nat)) ev).setCell ⟨q, 0, none⟩ (.int .i64 0)) = .ok (.agg #[.int .i64 F, .int .i64 T, .int .u32 (u : Nat), ev]) ((set4 w4 p (.int .i64 F) (.int .i64 T) (.int .u32 (u : Nat)) ev).setCell ⟨q, 0, none⟩ (.int .i64 0)) ∧
    (loadVar 36 ⟨q, 0, none⟩).run Tryz.prog ((set4 w4 p (.int .i64 F) (.int .i64 T) (.int .u32 (u : Nat)) ev).setCell ⟨q, 0, none⟩ (.int .i64 0)) = .ok (.int .i64 0) ((set4 w4 p (.int .i64 F) (.int .i64 T) (.int .u32 (u : Nat)) ev).setCell ⟨q, 0, none⟩ (.int .i64 0)) ∧
    Below w.heap.size w ((set4 w4 p (.int .i64 F) (.int .i64 T) (.int .u32 (u : Nat)) ev).setCell ⟨q, 0, none⟩ (.int .i64 0)) ∧ NRow w.heap.size ((set4 w4 p (.int .i64 F) (.int .i64 T) (.int .u32 (u : Nat)) ev).setCell ⟨q, 0, none⟩ (.int .i64 0)) ev es := by
  have e1 := (hr.block p (heap_lt hp) hpr).trans hp; have e2 := (hr.block q (heap_lt hq) hqr).trans hq; have hqp : q ≠ p := fun e => hpq e.symm
  have e3 := set4_at e1 (.int .i64 F) (.int .i64 T) (.int .u32 (u : Nat)) ev; have e4 := (set4_other (w := w4) hqp (.int .i64 F) (.int .i64 T) (.int .u32 (u : Nat)) ev).trans e2; have hw4 : Below w.heap.size w w4 := hb.trans (hr.below hb.size (fun k e => by omega))
  have h5 : Below w.heap.size w4 (set4 w4 p (.int .i64 F) (.int .i64 T) (.int .u32 (u : Nat)) ev) := (set4_turned (S := fun b => b = p) w4 rfl _ _ _ _).below hw4.size (fun k e => by omega)
  have l1 := heap_lt hp; have l2 := heap_lt hq; refine ⟨⟨e1, e2⟩, loadW _ _ _ _ _ _ ((heap_setCell_other _ _ _ _ hpq).trans e3), loadE _ _ _ ((heap_setCell_same _ _ _ _ _ _ e4).trans rfl), (hw4.trans h5).setCell (by exact h2) _, rrow_low (rrow_kept hn (fun b e => ?_)) hb.size⟩
  have := (hn.lt b e).1; exact (heap_setCell_other _ _ _ _ (by show b ≠ q; omega)).trans (set4_other (by omega) _ _ _ _)
set_option maxHeartbeats 4000000 in
set_option maxRecDepth 100000 in
theorem decodeS {w : World} {v : Value} {bs : List Nat} (h : Lies u8v w v bs) (hb : ∀ x ∈ bs, x < 256) (hl : bs.length ≤ 140737488355328) (ho : ∀ g, v.ownBlock = some g → g < w.heap.size) :
    Calls Tryz.prog 27 #[v] w fun e w' => Hid (DecAns w (decV bs) e w') := by
  have hmf : ∀ (fn : Fn) (first cap : Array Value) (w : World), (Instr.makeFunc fn first cap).run Tryz.prog w = .ok (.func fn first cap) w := fun _ _ _ _ => rfl
  obtain ⟨a, c, rfl⟩ := lies_shape h; obtain ⟨⟨k1, k2⟩, k3, k4⟩ := three_boxes w (.slice a bs.length c); have hrd : RdAt (((w.alloc (oW 0 0 0 (.slice none 0 0))).alloc (oE 0)).alloc (.cells #[.slice a bs.length c] 109)) (w.heap.size + 2) (.slice a bs.length c) bs := ⟨k3, lies_below h k4, fun e => by have := ho _ e; omega⟩
  have CW := hide (witnessS hrd hb hl (fun g e => Nat.lt_of_lt_of_le (ho g e) k4.size))
  have HK := hide (And.intro k1 (And.intro k2 k4)); generalize bs.length = n at *; obtain ⟨p0, hp0⟩ : ∃ p0, p0 = w.heap.size := ⟨_, rfl⟩; have HP := hide hp0; clear h hrd hb hl ho k1 k2 k3 k4 hp0; unfold oW oE at *
  go_enter_defers Tryz.func27, Tryz.ntmps27
  go_upto_region 3 with fail
  have e2 : w.heap.size + 1 + 1 = w.heap.size + 2 := rfl; rw [e2]; generalize (((w.alloc (Obj.cells #[Value.int IntKind.i64 0, Value.int IntKind.i64 0, Value.int IntKind.u32 0, Value.slice none 0 0] 35)).alloc (Obj.cells #[Value.int IntKind.i64 0] 36)).alloc (Obj.cells #[Value.slice a n c] 109)) = w3 at *; obtain ⟨k1, k2, k4⟩ := unhide HK; rw [← unhide HP]; rw [← unhide HP] at k1 k2 k4 CW
  cases hd : dec bs with
  | none =>
    rw [hd] at CW
    go_wp2_with fail
    refine (unhide CW).mono ?_; intro e w4 HA; obtain ⟨rfl, hr⟩ : e = .panicked gaveUp ∧ Reads (p0 + 2) w3 w4 := unhide HA; have hs := unhide HP; obtain ⟨⟨q1, q2⟩, q3, q4, q5⟩ := dec_none_mem (w := w) (p := p0) (q := p0 + 1) k1 k2 (by omega) (by omega) (by omega) (by rw [← hs]; exact k4) hr (by omega) (by omega) (by omega)
    have HG : Hid (DecAns w (decV bs) (.returned (.tuple #[.agg #[.int .i64 0, .int .i64 0, .int .u32 0, .slice none 0 0], .int .i64 160])) ((set4 w4 p0 (.int .i64 0) (.int .i64 0) (.int .u32 0) (.slice none 0 0)).setCell ⟨p0 + 1, 0, none⟩ (.int .i64 160))) := by
      show DecAns _ _ _ _; unfold decV; rw [hd]; exact ⟨_, rfl, ⟨rfl, .inl ⟨rfl, rfl⟩⟩, q5⟩
    refine leaves_cons (f := 52) (args := #[.pointer (some ⟨p0, 0, none⟩), .pointer (some ⟨p0 + 1, 0, none⟩)]) (by simp) (by simp [go_sem]) ?_
    refine (catchPanics p0 (p0 + 1) _ _ _ _ 0 w4 q1 q2 (by omega)).mono ?_
    rintro e u' w5 ⟨rfl, rfl, rfl⟩
    exact ⟨_, results_cell_cell rfl _ _ _ ⟨p0, 0, none⟩ ⟨p0 + 1, 0, none⟩ _ _ rfl rfl q3 q4, HG⟩
  | some x =>
    rw [hd] at CW
    go_wp2_with fail
    refine (unhide CW).mono ?_; intro e w4 HA; obtain ⟨ev, rfl, hn, hr⟩ := unhide HA; have hs := unhide HP; obtain ⟨⟨q1, q2⟩, q3, q4, q5, q6⟩ := dec_some_mem (w := w) (p := p0) (q := p0 + 1) (F := x.1) (T := x.2.1) (u := x.2.2.1) k1 k2 (by omega) (by omega) (by omega) (by rw [← hs]; exact k4) hr (by omega) (by omega) (by omega) hn
    have HG : Hid (DecAns w (decV bs) (.returned (.tuple #[.agg #[.int .i64 x.1, .int .i64 x.2.1, .int .u32 (x.2.2.1 : Nat), ev], .int .i64 0])) ((set4 w4 p0 (.int .i64 x.1) (.int .i64 x.2.1) (.int .u32 (x.2.2.1 : Nat)) ev).setCell ⟨p0 + 1, 0, none⟩ (.int .i64 0))) := by
      show DecAns _ _ _ _; unfold decV; rw [hd]; exact ⟨_, rfl, q6, q5⟩
    obtain ⟨ea, ec, rfl⟩ := rrow_shape hn; obtain ⟨⟨c0, c1, c2, c3⟩, f0, f1, f2, f3⟩ := oW_cells q1; have d0 := (cell_of_row _ _ 0 _ _ (0, 0) q2).trans (show #[Value.int .i64 0][0]? = some (.int .i64 0) from rfl)
    have g0 := frozen_of_row _ _ 0 _ _ q2; have H3 := hide q3; have H4 := hide q4; have np : ¬ p0 + 1 = p0 := by omega
    clear CW HA hn hr hs q1 q2 q3 q4 q5 q6 HK k1 k2 k4 HP hd; obtain ⟨F, T, u, es⟩ := x; simp only at *; generalize es.length = en at *
    go_wp2_with fail
    refine leaves_cons (f := 52) (args := #[.pointer (some ⟨p0, 0, none⟩), .pointer (some ⟨p0 + 1, 0, none⟩)]) (by simp) (by simp [go_sem]) ?_
    refine (catchIdle ⟨p0, 0, none⟩ ⟨p0 + 1, 0, none⟩ _).mono ?_
    rintro e u' w5 ⟨rfl, rfl, rfl⟩
    exact ⟨_, results_cell_cell rfl _ _ _ ⟨p0, 0, none⟩ ⟨p0 + 1, 0, none⟩ _ _ rfl rfl (unhide H3) (unhide H4), HG⟩
end W16

end Go.Proofs.YtagibmgbjhemkaaGreat
