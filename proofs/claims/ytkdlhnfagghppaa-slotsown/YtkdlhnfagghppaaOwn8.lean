/- The region of SlotsOwn that makes the iterator and asks the reference. -/
import Derived.Test.YtkdlhnfagghppaaOwn3
import Derived.Test.YtkdlhnfagghppaaAwake
namespace Go.Proofs.Ytkdlhnfagghppaa

section
open Go.RowKit Go.Maps
/-- The state between two calls of the script; the blocks of G stay. -/
structure MidO [Inhabited EntI] (B : Nat) (w0 : World) (t M : Nat) (most : Int) (k : Nat) (v : Value) (G : Nat → Option Obj) (w : World) : Prop where
  out : ∃ ps n its, Rel ps its ∧ n ≤ k * 65536 ∧ its.length ≤ k ∧ w.ownsRow 0 47 2 v its.length (enc .i64 its) ∧ Duo (fun b => b = M ∨ v.ownBlock = some b ∨ ∃ o, G b = some o) B w0 t most ps n w
  box : w.heap[M]? = some (.cells #[.int .i64 most, v] 27 (0, 0))
  hM : B ≤ M
  gm : G M = none
  keep : ∀ b o, G b = some o → w.heap[b]? = some o

theorem midO_play [Inhabited EntI] {B : Nat} {w0 w : World} {t M : Nat} {most : Int} {k : Nat} {v : Value} {G : Nat → Option Obj} (h : MidO B w0 t M most k v G w) (hk : k ≤ 120) (kd i x : Int) :
    Calls Try.prog 10 #[.pointer (some ⟨t, 0, none⟩), .agg #[.int .i64 most, v], .agg #[.int .i64 kd, .int .i64 i, .int .i64 x]] w fun e w' => ∃ a c n3, e = .returned (.tuple #[.agg #[.int .i64 most, .slice a n3 c], .bool true]) ∧ (w'.cell? ⟨M, 0, none⟩ = some (.int .i64 most) ∧ w'.cell? ⟨M, 1, none⟩ = some v ∧ ∀ o, w'.frozen? ⟨M, o, none⟩ = false) ∧
      Hid (MidO B w0 t M most (k + 1) (.slice a n3 c) G ((w'.setCell ⟨M, 0, none⟩ (.int .i64 most)).setCell ⟨M, 1, none⟩ (.slice a n3 c))) := by
  obtain ⟨ps, n, its, h1, h2, h3, h4, h5⟩ := h.out
  have h6 := h.box
  have h7 := h.hM
  refine (play_any kd i x h5 (fun b hb => .inr (.inl hb)) h4 h1 (by omega) (by omega)).mono ?_
  rintro e w' ⟨v', he, hp⟩
  obtain ⟨ps', n', its', g1, g2, g3, g4, g5, g6⟩ := hp.out.out
  have hM := (g6 M (.inl rfl)).trans h6
  obtain ⟨a, c, rfl⟩ := item_shape g4
  have hne : ∀ b, (Value.slice a its'.length c).ownBlock = some b → b ≠ M := fun b hb e => by
    subst e
    rcases g4.2 with ⟨e2, -⟩ | ⟨g, cap, cur, e2, -, hgg, -⟩
    · rw [e2] at hb; simp [Value.ownBlock] at hb
    · rw [e2] at hb
      have hbg : g = b := by simpa [Value.ownBlock] using hb
      rw [hbg, hM] at hgg
      simp at hgg
  have hD := ((g5.set (b := M) (.inl (.inl rfl)) h7 0 (.int .i64 most)).set (b := M) (.inl (.inl rfl)) h7 1 (.slice a its'.length c)).sub (X' := fun b => b = M ∨ (Value.slice a its'.length c).ownBlock = some b ∨ ∃ o, G b = some o) (fun b hb => hb.elim (fun e => .inl (.inl e)) (fun e => e.elim .inr (fun e => .inl (.inr (.inr e)))))
  have hM2 : ((w'.setCell ⟨M, 0, none⟩ (.int .i64 most)).setCell ⟨M, 1, none⟩ (.slice a its'.length c)).heap[M]? = some (.cells #[.int .i64 most, .slice a its'.length c] 27 (0, 0)) := by
    have e1 : (w'.setCell ⟨M, 0, none⟩ (.int .i64 most)).heap[M]? = some (.cells #[.int .i64 most, v] 27 (0, 0)) := by rw [heap_setCell_same _ _ _ _ _ _ hM]; rfl
    rw [heap_setCell_same _ _ _ _ _ _ e1]; rfl
  refine ⟨a, c, its'.length, he, ⟨?_, ?_, fun o => frozen_of_row _ _ o _ _ hM⟩, ⟨ps', n', its', g1, by omega, by omega, items_kept g4 (fun b hb => ?_), hD⟩, hM2, h7, h.gm, fun b o hb => ?_⟩
  · rw [cell_of_row _ _ _ _ _ _ hM]; rfl
  · rw [cell_of_row _ _ _ _ _ _ hM]; rfl
  · rw [heap_setCell_other _ _ _ _ (hne b hb), heap_setCell_other _ _ _ _ (hne b hb)]
  · have hbM : b ≠ M := fun e => by rw [e, h.gm] at hb; cases hb
    rw [heap_setCell_other _ _ _ _ hbM, heap_setCell_other _ _ _ _ hbM]
    exact (g6 b (.inr (.inr ⟨o, hb⟩))).trans (h.keep b o hb)

theorem midO_cells [Inhabited EntI] {B : Nat} {w0 w : World} {t M : Nat} {most : Int} {k : Nat} {v : Value} {G : Nat → Option Obj} (h : MidO B w0 t M most k v G w) : w.cell? ⟨M, 0, none⟩ = some (.int .i64 most) ∧ w.cell? ⟨M, 1, none⟩ = some v ∧ Below B w0 w ∧ ∃ a n3 c, v = .slice a n3 c := by
  obtain ⟨ps, n, its, h1, h2, h3, h4, h5⟩ := h.out
  obtain ⟨a, c, hv⟩ := item_shape h4
  refine ⟨?_, ?_, h5.below, a, _, c, hv⟩
  · rw [cell_of_row _ _ _ _ _ _ h.box]; rfl
  · rw [cell_of_row _ _ _ _ _ _ h.box]; rfl
theorem midO_step [Inhabited EntI] {B : Nat} {w0 w w' : World} {t M : Nat} {most : Int} {k : Nat} {v : Value} {G : Nat → Option Obj} (h : MidO B w0 t M most k v G w) (hb : Below w.heap.size w w') : MidO B w0 t M most k v G w' := by
  obtain ⟨ps, n, its, h1, h2, h3, h4, h5⟩ := h.out
  exact ⟨⟨ps, n, its, h1, h2, h3, items_below h4 hb, h5.step hb⟩, (hb.block M (Array.getElem?_eq_some_iff.1 h.box).1).trans h.box, h.hM, h.gm, fun b o hg => (hb.block b (Array.getElem?_eq_some_iff.1 (h.keep b o hg)).1).trans (h.keep b o hg)⟩
theorem midO_draw [Inhabited EntI] {B : Nat} {w0 w : World} {t M : Nat} {most : Int} {k : Nat} {v : Value} {G : Nat → Option Obj} (h : MidO B w0 t M most k v G w) (q : Nat) : MidO B w0 t M most k v G (w.drewN q) := midO_step h (below_drewN (Below.refl _ _) q)

theorem midO_first [Inhabited EntI] {w0 w w1 w2 w3 : World} {t M : Nat} {most : Int} {G : Nat → Option Obj} (hw : Below w0.heap.size w0 w) (h : LiveN w.heap.size w t most [] 0 w1) (hb : Below w1.heap.size w1 w2) (hb3 : Below w2.heap.size w2 w3) (hM : w2.heap.size ≤ M) (hbox : w3.heap[M]? = some (.cells #[.int .i64 most, .slice none 0 0] 27 (0, 0))) (hgm : G M = none) (hk : ∀ b o, G b = some o → w3.heap[b]? = some o ∧ (b < w.heap.size ∨ w2.heap.size ≤ b)) : MidO w0.heap.size w0 t M most 0 (.slice none 0 0) G w3 := by
  have h2 := h.step hb
  obtain ⟨hp, v, ms, G2, h3, h4⟩ := h2.on
  have lt3 : ∀ {b : Nat} {o : Obj}, w3.heap[b]? = some o → b < w3.heap.size := fun e => (Array.getElem?_eq_some_iff.1 e).1
  refine ⟨⟨[], 0, [], rel_nil, by omega, by simp, ⟨rfl, .inl ⟨rfl, rfl⟩⟩, ⟨hw.trans ((h2.below.trans (hb3.mono h2.room)).mono hw.size), Nat.le_trans hw.size (Nat.le_trans h2.room hb3.size), ⟨hp, v, ms, G2, h3.kept (fun k hk => hb3.block k (h3.lt hk)), fun j hj => ⟨Nat.le_trans hw.size (h4 j hj), fun hx => ?_⟩⟩, fun b hx => ?_⟩⟩, hbox, Nat.le_trans (Nat.le_trans hw.size h2.room) hM, hgm, fun b o hb => (hk b o hb).1⟩
  · have hj1 := h4 j hj
    have hj2 := h3.lt hj
    rcases hx with rfl | hx | ⟨o, ho⟩
    · omega
    · simp [Value.ownBlock] at hx
    · have := (hk j o ho).2
      omega
  · rcases hx with rfl | hx | ⟨o, ho⟩
    · exact lt3 hbox
    · simp [Value.ownBlock] at hx
    · exact lt3 (hk b o ho).1

theorem GearO.next {B t sb rb b5 b9 b10 b10' bx : Nat} {stop tt tt' : Int} {wa : Option Addr} {wn wc : Nat} {pv : Value} {psl : List (Int × Bool)} {G G' : Nat → Option Obj} (h : GearO B t sb rb b5 b9 b10 bx stop tt wa wn wc pv psl G) (hs : ∀ b o, G b = some o → G' b = some o) (hu : G' b10' = some (.cells #[.int .i64 tt'] 3 (0, 0))) : GearO B t sb rb b5 b9 b10' bx stop tt' wa wn wc pv psl G' :=
  ⟨hs _ _ h.s, hs _ _ h.r, hs _ _ h.t5, hs _ _ h.w9, hu, h.len, fun W hW => h.row W (fun b o hb => hW b o (hs b o hb)), fun W hW => h.it W (fun b o hb => hW b o (hs b o hb)), fun b hb => (h.yb b hb).imp fun o ho => hs b o ho, h.n9, h.hrb⟩

/-- The blocks of w for which P speaks. -/
theorem gof_ex (w : World) (P : Nat → Prop) : ∃ G : Nat → Option Obj, ∀ b o, G b = some o ↔ P b ∧ w.heap[b]? = some o := by
  classical
  exact ⟨fun b => if P b then w.heap[b]? else none, fun b o => by by_cases h : P b <;> simp [h]⟩

/-- The gear of the first turn. -/
theorem gear_first [Inhabited EntI] {B : Nat} {w0 w1 W : World} {t M sb rb b5 b9 b10 bx : Nat} {stop : Int} {k : Nat} {v : Value} {G : Nat → Option Obj} {wa : Option Addr} {wn wc : Nat} {pv : Value} {psl : List (Int × Bool)} {n : Nat}
    (hd : Duo (fun b => b = M ∨ v.ownBlock = some b ∨ ∃ o, G b = some o) B w0 t 9 psl n w1) (hn : n ≤ k * 65536) (hk : k ≤ 120) (hb : Below w1.heap.size w1 W) (hkeep : ∀ b o, G b = some o → w1.heap[b]? = some o)
    (gs : G sb = some (.cells #[.int .i64 stop] 3 (0, 0))) (gr : G rb = some (.cells #[.bool false] 4 (0, 0))) (g5 : G b5 = some (.cells #[.pointer (some ⟨t, 0, none⟩)] 23 (0, 0)))
    (h9 : W.heap[b9]? = some (.cells #[.slice wa wn wc] 25 (0, 0))) (l9 : w1.heap.size ≤ b9) (h10 : W.heap[b10]? = some (.cells #[.int .i64 0] 3 (0, 0))) (l10 : w1.heap.size ≤ b10)
    (hlen : wn = (ris psl psl.length).length) (hrow : W.ownsRow w1.heap.size 47 2 (.slice wa wn wc) wn (enc .i64 (ris psl psl.length))) (hbx : W.cell? ⟨bx, 0, none⟩ = some pv) (lbx : w1.heap.size ≤ bx) (hit : W.ownsRow w1.heap.size 67 2 pv psl.length (encN psl)) (hrb : B ≤ rb) :
    ∃ G', GearO B t sb rb b5 b9 b10 bx stop 0 wa wn wc pv psl G' ∧ StO W.heap.size B w0 t 9 8000000 G' W := by
  have kpW : ∀ b o, G b = some o → W.heap[b]? = some o := fun b o hg => (hb.block b (hd.xlt b (.inr (.inr ⟨o, hg⟩)))).trans (hkeep b o hg)
  have hp9 : psl.length ≤ 9 := by have := hd.live.fits; omega
  obtain ⟨Gf, gof⟩ := gof_ex W (fun b => (∃ o, G b = some o) ∨ w1.heap.size ≤ b)
  have kk : ∀ W' : World, (∀ b o, Gf b = some o → W'.heap[b]? = some o) → ∀ k, w1.heap.size ≤ k → k < W.heap.size → W'.heap[k]? = W.heap[k]? := fun W' hW k h1 h2 => by
    have e : W.heap[k]? = some W.heap[k] := Array.getElem?_eq_getElem h2
    rw [e]
    exact hW k _ ((gof _ _).2 ⟨.inr h1, e⟩)
  refine ⟨Gf, ⟨(gof _ _).2 ⟨.inl ⟨_, gs⟩, kpW _ _ gs⟩, (gof _ _).2 ⟨.inl ⟨_, gr⟩, kpW _ _ gr⟩, (gof _ _).2 ⟨.inl ⟨_, g5⟩, kpW _ _ g5⟩, (gof _ _).2 ⟨.inr l9, h9⟩, (gof _ _).2 ⟨.inr l10, h10⟩, hlen, fun W' hW => ?_, fun W' hW => ⟨?_, ?_⟩, fun b hb => ?_, hp9, hrb⟩, ⟨fun b o hg => ((gof _ _).1 hg).2, fun b o hg => (Array.getElem?_eq_some_iff.1 ((gof _ _).1 hg).2).1, psl, n, by omega, ?_⟩⟩
  · exact items_kept hrow (fun k hk => kk W' hW k (hrow.lt k hk).1 (hrow.lt k hk).2)
  · exact (cell_of_heap (x := ⟨bx, 0, none⟩) (kk W' hW bx lbx (World.block_lt_of_cell? _ _ hbx))).trans hbx
  · exact row_kept2 (w := W) ⟨hit.1, hit.2.imp id (fun ⟨g, cap, cur, e, _, rest⟩ => ⟨g, cap, cur, e, Nat.zero_le _, rest⟩)⟩ (fun k hk => kk W' hW k (hit.lt k hk).1 (hit.lt k hk).2)
  · have hbl : w1.heap.size ≤ b ∧ b < W.heap.size := by
      rcases hb with rfl | hb
      · exact ⟨lbx, World.block_lt_of_cell? _ _ hbx⟩
      · exact hit.lt b hb
    exact ⟨_, (gof _ _).2 ⟨.inr hbl.1, Array.getElem?_eq_getElem hbl.2⟩⟩
  · refine (hd.next (X' := fun b => ∃ o, Gf b = some o) hb (fun b ⟨o, ho⟩ => ?_)).two
    obtain ⟨h1 | h1, h2⟩ := (gof _ _).1 ho
    · exact .inl (.inr (.inr h1))
    · exact .inr ⟨h1, (Array.getElem?_eq_some_iff.1 h2).1⟩
end

section
open Go.RowKit Go.Maps
def tx : ByteArray := ⟨#[120]⟩
section
variable [Inhabited EntI] {B : Nat} {w0 w : World} {t n : Nat}
theorem oz1 (h : LiveZ B w0 t 2 [] n w) (hn : n ≤ 1000) : Calls Try.prog 22 #[.pointer (some ⟨t, 0, none⟩), .string ⟨#[120]⟩] w fun e w' => e = .returned (.tuple #[.int .i64 1, .bool true]) ∧ Hid (∃ n', n' ≤ n + 65536 ∧ LiveZ B w0 t 2 [(tx, true)] n' w') :=
  putYesLZ 0 tx h (fun r hr => free_end (full_zero _) (by simp) hr) (by omega) (by simp) (by omega)
theorem oz2 (h : LiveZ B w0 t 2 [(tx, true)] n w) : Calls Try.prog 23 #[.pointer (some ⟨t, 0, none⟩), .int .i64 1] w fun e w' => e = .returned (.tuple #[.string ⟨#[120]⟩, .bool true]) ∧ w' = w := atYesLZ 0 h rfl
theorem oz3 (h : LiveZ B w0 t 2 [(tx, true)] n w) : Calls Try.prog 24 #[.pointer (some ⟨t, 0, none⟩)] w fun e w' => e = .returned (.int .i64 1) ∧ ∃ q, w' = w.drewN q := lenLZ h
end

set_option maxHeartbeats 4000000 in
set_option maxRecDepth 100000 in
theorem ownEnd [Inhabited EntI] {u : World} {rb : Nat} {ds : List Deferred} (a0 a1 a2 a3 a5 a6 a7 a8 a9 a10 a11 a12 a13 a14 a15 a16 a17 a18 a19 a20 a21 a22 a23 a24 a25 a26 a27 a28 a29 a30 a31 a32 a33 a34 a35 a36 a37 a38 a39 a40 a41 a42 a43 a44 a45 a46 a47 a48 a49 a50 a51 a52 a53 a54 a55 a56 a57 a58 a59 a60 a61 a62 a63 a64 a65 a66 a67 a68 a69 a70 a71 a72 a73 a74 a75 a76 a77 a78 a79 a80 a81 a82 a83 a84 a85 a86 a87 a88 a89 a90 a91 a92 a93 a94 a95 a96 a97 a98 a99 a100 a101 a102 a103 a104 a105 a106 a107 a108 a109 a110 a111 a112 a113 a114 a115 a116 a117 a118 a119 a120 a121 a122 a123 a124 a125 a126 a127 a128 a129 a130 a131 : Value) (Q : Exit → Act → World → Prop) (HR : Hid (u.heap[rb]? = some (.cells #[.bool false] 4 (0, 0))))
    (HQ : Hid (∀ (b14 b15 b16 b112 b113 b114 b115 b116 b117 b118 b119 b120 b121 b122 b123 b124 b125 b126 b127 b128 b129 b130 b131 : Value) (wz : World), Below u.heap.size u wz → Q .ret ⟨#[a0, a1, a2, a3, .pointer (some ⟨rb, 0, none⟩), a5, a6, a7, a8, a9, a10, a11, a12, a13, b14, b15, b16, a17, a18, a19, a20, a21, a22, a23, a24, a25, a26, a27, a28, a29, a30, a31, a32, a33, a34, a35, a36, a37, a38, a39, a40, a41, a42, a43, a44, a45, a46, a47, a48, a49, a50, a51, a52, a53, a54, a55, a56, a57, a58, a59, a60, a61, a62, a63, a64, a65, a66, a67, a68, a69, a70, a71, a72, a73, a74, a75, a76, a77, a78, a79, a80, a81, a82, a83, a84, a85, a86, a87, a88, a89, a90, a91, a92, a93, a94, a95, a96, a97, a98, a99, a100, a101, a102, a103, a104, a105, a106, a107, a108, a109, a110, a111, b112, b113, b114, b115, b116, b117, b118, b119, b120, b121, b122, b123, b124, b125, b126, b127, b128, b129, b130, b131], ds⟩ (wz.setCell ⟨rb, 0, none⟩ (.bool true)))) :
    Code.wp Try.prog ((Try.f6.body.bind (atRegion 29)).getD .skip) Q ⟨#[a0, a1, a2, a3, .pointer (some ⟨rb, 0, none⟩), a5, a6, a7, a8, a9, a10, a11, a12, a13, a14, a15, a16, a17, a18, a19, a20, a21, a22, a23, a24, a25, a26, a27, a28, a29, a30, a31, a32, a33, a34, a35, a36, a37, a38, a39, a40, a41, a42, a43, a44, a45, a46, a47, a48, a49, a50, a51, a52, a53, a54, a55, a56, a57, a58, a59, a60, a61, a62, a63, a64, a65, a66, a67, a68, a69, a70, a71, a72, a73, a74, a75, a76, a77, a78, a79, a80, a81, a82, a83, a84, a85, a86, a87, a88, a89, a90, a91, a92, a93, a94, a95, a96, a97, a98, a99, a100, a101, a102, a103, a104, a105, a106, a107, a108, a109, a110, a111, a112, a113, a114, a115, a116, a117, a118, a119, a120, a121, a122, a123, a124, a125, a126, a127, a128, a129, a130, a131], ds⟩ u := by
  conv => arg 2; whnf
  have HRB : Hid (∀ wz, Below u.heap.size u wz → wz.cell? ⟨rb, 0, none⟩ = some (.bool false) ∧ ∀ o, wz.frozen? ⟨rb, o, none⟩ = false) := fun wz hb => by
    have h := (hb.block rb (Array.getElem?_eq_some_iff.1 (unhide HR)).1).trans (unhide HR)
    exact ⟨(cell_of_row _ _ 0 _ 4 (0, 0) h).trans rfl, fun o => frozen_of_row _ _ o _ _ h⟩
  go_wp2_with fail
  refine (newLZ 2 u).mono ?_
  rintro e w1 ⟨t, rfl, L1⟩
  have C1 := hide (oz1 L1 (by omega))
  clear L1
  go_wp2_with fail
  refine (unhide C1).mono ?_
  rintro e w2 ⟨rfl, h2⟩
  obtain ⟨n2, l2, L2⟩ := unhide h2
  have HL2 := hide L2
  clear C1 h2 L2
  go_wp2_with fail
  refine (oz2 (unhide HL2)).mono ?_
  rintro e w3 ⟨rfl, rfl⟩
  have C3 : Hid (Calls Try.prog 24 #[.pointer (some ⟨t, 0, none⟩)] w3 fun e w' => e = .returned (.int .i64 1) ∧ (w'.cell? ⟨rb, 0, none⟩ = some (.bool false) ∧ ∀ o, w'.frozen? ⟨rb, o, none⟩ = false) ∧ Hid (Below u.heap.size u w')) := (oz3 (unhide HL2)).mono fun _ _ ⟨he, q, hq⟩ => by
    subst hq
    exact ⟨he, unhide HRB _ (below_drewN (unhide HL2).below q), below_drewN (unhide HL2).below q⟩
  clear HL2 HRB HR
  go_wp2_with fail
  refine (unhide C3).mono ?_
  rintro e w4 ⟨rfl, ⟨r0, rf⟩, hB⟩
  clear C3
  go_wp2_with fail
  exact unhide HQ _ _ _ _ _ _ _ _ _ _ _ _ _ _ _ _ _ _ _ _ _ _ _ _ (unhide hB)
end

section
open Go.RowKit Go.Maps
/-- Behind a turn, the next turn's box stands beside what stood. -/
theorem turned [Inhabited EntI] {B : Nat} {w0 u wq : World} {t sb rb b5 b9 b10 bx : Nat} {stop tt tt' : Int} {wa : Option Addr} {wn wc : Nat} {pv : Value} {psl : List (Int × Bool)} {G : Nat → Option Obj} {N D Nn : Nat} (hg : GearO B t sb rb b5 b9 b10 bx stop tt wa wn wc pv psl G) (hlt : ∀ b o, G b = some o → b < u.heap.size) (hD : u.heap.size ≤ D) (hs : StO wq.heap.size B w0 t 9 N (Gp G D (.deferred (some []))) wq) (hN : N ≤ Nn) :
    ∃ G', GearO B t sb rb b5 b9 wq.heap.size bx stop tt' wa wn wc pv psl G' ∧ StO (wq.alloc (.cells #[.int .i64 tt'] 3)).heap.size B w0 t 9 Nn G' (wq.alloc (.cells #[.int .i64 tt'] 3)) ∧ G' D = some (.deferred (some [])) ∧ (∀ b o, G b = some o → G' b = some o) := by
  have hDl : D < wq.heap.size := hs.low _ _ (Gp_self _ _ _)
  have sub : ∀ b o, G b = some o → Gp (Gp G D (.deferred (some []))) wq.heap.size (.cells #[.int .i64 tt'] 3 (0, 0)) b = some o := fun b o hb => by
    have := hlt b o hb
    rw [Gp_other _ _ (by omega), Gp_other _ _ (by omega)]
    exact hb
  refine ⟨Gp (Gp G D (.deferred (some []))) wq.heap.size (.cells #[.int .i64 tt'] 3 (0, 0)), hg.next sub (Gp_self _ _ _), (hs.anew ((Below.refl _ _).alloc (Nat.le_refl _) _) (fun b o hb => ?_)).le hN, ?_, sub⟩
  · by_cases e : b = wq.heap.size
    · subst e
      rw [Gp_self] at hb
      cases hb
      exact ⟨heap_alloc_new _ _, .inr (.inl (Nat.le_refl _))⟩
    · rw [Gp_other _ _ e] at hb
      exact ⟨(heap_alloc_old _ _ (hs.low b o hb)).trans (hs.keep b o hb), .inl hb⟩
  · rw [Gp_other _ _ (by omega), Gp_self]

set_option maxHeartbeats 4000000 in
set_option maxRecDepth 100000 in
theorem ownTurns [Inhabited EntI] {B : Nat} {w0 u : World} {t sb rb b5 b9 bx : Nat} {stop : Int} {wa : Option Addr} {wn wc : Nat} {pv : Value} {psl : List (Int × Bool)} {ds : List Deferred} (a0 a1 a2 a6 a7 a10 a11 a12 a13 a14 a15 a16 a17 a18 a19 a20 a21 a22 a23 a24 a25 a26 a27 a28 a29 a30 a31 a32 a33 a34 a35 a36 a37 a38 a39 a40 a41 a42 a43 a44 a45 a46 a47 a48 a49 a50 a51 a52 a53 a54 a55 a56 a57 a58 a59 a60 a61 a62 a63 a64 a65 a66 a67 a68 a69 a70 a71 a72 a73 a74 a75 a76 a77 a78 a79 a80 a81 a82 a83 a84 a85 a86 a87 a88 a89 a90 a91 a92 a93 a94 a95 a96 a97 a98 a99 a100 a101 a102 a103 a104 a105 a106 a107 a108 a109 a110 a111 a112 a113 a114 a115 a116 a117 a118 a119 a120 a121 a122 a123 a124 a125 a126 a127 a128 a129 a130 a131 : Value) (Q : Exit → Act → World → Prop)
    (HG : Hid (∃ G, GearO B t sb rb b5 b9 u.heap.size bx stop 0 wa wn wc pv psl G ∧ StO (u.alloc (.cells #[.int .i64 0] 3)).heap.size B w0 t 9 8000000 G (u.alloc (.cells #[.int .i64 0] 3))))
    (HQ : Hid (∀ (b10 b11 b12 b13 b51 b52 b53 b54 b55 b56 b57 b58 b59 b60 b61 b62 b63 b64 b65 b66 b67 b68 b69 b70 b71 b72 b73 b74 b75 b76 b77 b78 b79 b80 b81 b82 b83 b84 b85 b86 b87 b88 b89 b90 b91 b92 b93 b94 b95 b96 b97 b98 b99 b100 b101 b102 b103 b104 b105 b106 b107 b108 b109 b110 b111 : Value) (D1 D2 : Nat) (wz : World), ((wz.heap[D1]? = some (.deferred (some [])) ∧ B ≤ D1) ∧ (wz.heap[D2]? = some (.deferred (some [])) ∧ B ≤ D2) ∧ D1 ≠ D2) ∧ wz.heap[rb]? = some (.cells #[.bool false] 4 (0, 0)) ∧ B ≤ rb ∧ Below B w0 wz ∧ B ≤ wz.heap.size → Q .normal ⟨#[a0, a1, a2, .pointer (some ⟨sb, 0, none⟩), .pointer (some ⟨rb, 0, none⟩), .pointer (some ⟨b5, 0, none⟩), a6, a7, .func (.func 45) #[] #[.pointer (some ⟨bx, 0, none⟩)], .pointer (some ⟨b9, 0, none⟩), b10, b11, b12, b13, a14, a15, a16, a17, a18, a19, a20, a21, a22, a23, a24, a25, a26, a27, a28, a29, a30, a31, a32, a33, a34, a35, a36, a37, a38, a39, a40, a41, a42, a43, a44, a45, a46, a47, a48, a49, a50, b51, b52, b53, b54, b55, b56, b57, b58, b59, b60, b61, b62, b63, b64, b65, b66, b67, b68, b69, b70, b71, b72, b73, b74, b75, b76, b77, b78, b79, b80, b81, b82, b83, b84, b85, b86, b87, b88, b89, b90, b91, b92, b93, b94, b95, b96, b97, b98, b99, b100, b101, b102, b103, b104, b105, b106, b107, b108, b109, b110, b111, a112, a113, a114, a115, a116, a117, a118, a119, a120, a121, a122, a123, a124, a125, a126, a127, a128, a129, a130, a131], { target := .collected D2, args := #[] } :: { target := .collected D1, args := #[] } :: ds⟩ wz)) :
    Code.wp Try.prog ((Try.f6.body.bind (atRegion 11)).getD .skip) Q ⟨#[a0, a1, a2, .pointer (some ⟨sb, 0, none⟩), .pointer (some ⟨rb, 0, none⟩), .pointer (some ⟨b5, 0, none⟩), a6, a7, .func (.func 45) #[] #[.pointer (some ⟨bx, 0, none⟩)], .pointer (some ⟨b9, 0, none⟩), a10, a11, a12, a13, a14, a15, a16, a17, a18, a19, a20, a21, a22, a23, a24, a25, a26, a27, a28, a29, a30, a31, a32, a33, a34, a35, a36, a37, a38, a39, a40, a41, a42, a43, a44, a45, a46, a47, a48, a49, a50, a51, a52, a53, a54, a55, a56, a57, a58, a59, a60, a61, a62, a63, a64, a65, a66, a67, a68, a69, a70, a71, a72, a73, a74, a75, a76, a77, a78, a79, a80, a81, a82, a83, a84, a85, a86, a87, a88, a89, a90, a91, a92, a93, a94, a95, a96, a97, a98, a99, a100, a101, a102, a103, a104, a105, a106, a107, a108, a109, a110, a111, a112, a113, a114, a115, a116, a117, a118, a119, a120, a121, a122, a123, a124, a125, a126, a127, a128, a129, a130, a131], ds⟩ u := by
  conv => arg 2; whnf
  obtain ⟨G, hg, hs⟩ := unhide HG
  have HU : Hid (∀ W M N, StO M B w0 t 9 N G W → W.cell? ⟨u.heap.size, 0, none⟩ = some (.int .i64 0)) := fun W M N hW => (cell_of_row _ _ 0 _ 3 (0, 0) (hW.keep _ _ hg.u10)).trans rfl
  have u0 := unhide HU _ _ _ hs
  have HGr := hide hg
  have HS := hide hs
  have HB : Hid (B ≤ (u.alloc (.cells #[.int .i64 0] 3)).heap.size) := by
    obtain ⟨ps, n, -, h2⟩ := hs.duo
    exact h2.room
  clear HG hg hs
  go_wp2_with fail
  generalize (u.alloc (.cells #[.int .i64 0] 3)) = u1 at *
  generalize u.heap.size = b10 at *
  refine wp_loop_rounds 3 ?_
  rw [rounds_succ]
  go_upto_region 12 with fail
  iterate 16 go_step
  refine ownTurn _ _ _ _ _ _ _ _ _ _ _ _ _ _ _ _ _ _ _ _ _ _ _ _ _ _ _ _ _ _ _ _ _ _ _ _ _ _ _ _ _ _ _ _ _ _ _ _ _ _ _ _ _ _ _ _ _ _ _ _ _ _ _ _ _ _ _ _ _ _ _ _ _ _ _ _ _ _ _ _ _ _ _ _ _ _ _ _ _ _ _ _ _ _ _ _ _ _ _ _ _ _ _ _ _ _ _ _ _ _ _ _ _ _ _ _ _ _ _ _ _ _ _ _ _ _ _ HGr HS ⟨by omega, .inl rfl⟩ ?_
  rintro c11 c12 c13 c55 c56 c57 c58 c59 c60 c61 c62 c63 c64 c65 c66 c67 c68 c69 c70 c71 c72 c73 c74 c75 c76 c77 c78 c79 c80 c81 c82 c83 c84 c85 c86 c87 c88 c89 c90 c91 c92 c93 c94 c95 c96 c97 c98 c99 c100 c101 c102 c103 c104 c105 c106 c107 c108 c109 c110 D wq ⟨hD, hdef, hst⟩
  have HW : Hid (∃ G', GearO B t sb rb b5 b9 wq.heap.size bx stop 1 wa wn wc pv psl G' ∧ StO (wq.alloc (.cells #[.int .i64 1] 3)).heap.size B w0 t 9 20000000 G' (wq.alloc (.cells #[.int .i64 1] 3)) ∧ G' D = some (.deferred (some [])) ∧ (∀ b o, G b = some o → G' b = some o)) := turned (unhide HGr) (unhide HS).low hD hst (by omega)
  have v0 : wq.cell? ⟨b10, 0, none⟩ = some (.int .i64 0) := by
    have h := (unhide HGr).u10
    have := (unhide HS).low _ _ h
    exact (cell_of_row _ _ 0 _ 3 (0, 0) (hst.keep _ _ (by rw [Gp_other _ _ (by omega)]; exact h))).trans rfl
  have HBD : Hid (B ≤ D) := Nat.le_trans (unhide HB) hD
  clear hst hdef hD HU HS HGr u0
  dsimp only
  go_wp2_with fail
  obtain ⟨G2, hg2, hs2, hd2, hsub⟩ := unhide HW
  have u0 : (wq.alloc (.cells #[.int .i64 1] 3)).cell? ⟨wq.heap.size, 0, none⟩ = some (.int .i64 1) := (cell_of_row _ _ 0 _ 3 (0, 0) (hs2.keep _ _ hg2.u10)).trans rfl
  have HGr := hide hg2
  have HS := hide hs2
  have HB2 : Hid (B ≤ (wq.alloc (.cells #[.int .i64 1] 3)).heap.size) := by
    obtain ⟨ps, n, -, h2⟩ := hs2.duo
    exact h2.room
  have HD2 := hide hd2
  clear HW hg2 hs2 hd2 hsub v0 HB
  generalize (wq.alloc (.cells #[.int .i64 1] 3)) = u2 at *
  generalize wq.heap.size = b10b at *
  rw [rounds_succ]
  go_upto_region 12 with fail
  iterate 16 go_step
  refine ownTurn _ _ _ _ _ _ _ _ _ _ _ _ _ _ _ _ _ _ _ _ _ _ _ _ _ _ _ _ _ _ _ _ _ _ _ _ _ _ _ _ _ _ _ _ _ _ _ _ _ _ _ _ _ _ _ _ _ _ _ _ _ _ _ _ _ _ _ _ _ _ _ _ _ _ _ _ _ _ _ _ _ _ _ _ _ _ _ _ _ _ _ _ _ _ _ _ _ _ _ _ _ _ _ _ _ _ _ _ _ _ _ _ _ _ _ _ _ _ _ _ _ _ _ _ _ _ _ HGr HS ⟨by omega, .inr rfl⟩ ?_
  rintro d11 d12 d13 d55 d56 d57 d58 d59 d60 d61 d62 d63 d64 d65 d66 d67 d68 d69 d70 d71 d72 d73 d74 d75 d76 d77 d78 d79 d80 d81 d82 d83 d84 d85 d86 d87 d88 d89 d90 d91 d92 d93 d94 d95 d96 d97 d98 d99 d100 d101 d102 d103 d104 d105 d106 d107 d108 d109 d110 E wr ⟨hD, hdef, hst⟩
  have HW : Hid (∃ G', GearO B t sb rb b5 b9 wr.heap.size bx stop 2 wa wn wc pv psl G' ∧ StO (wr.alloc (.cells #[.int .i64 2] 3)).heap.size B w0 t 9 30000000 G' (wr.alloc (.cells #[.int .i64 2] 3)) ∧ G' E = some (.deferred (some [])) ∧ (∀ b o, G2 b = some o → G' b = some o)) := turned (unhide HGr) (unhide HS).low hD hst (by omega)
  have v0 : wr.cell? ⟨b10b, 0, none⟩ = some (.int .i64 1) := by
    have h := (unhide HGr).u10
    have := (unhide HS).low _ _ h
    exact (cell_of_row _ _ 0 _ 3 (0, 0) (hst.keep _ _ (by rw [Gp_other _ _ (by omega)]; exact h))).trans rfl
  have HBE : Hid (B ≤ E ∧ D ≠ E) := ⟨Nat.le_trans (unhide HB2) hD, fun e => by have := (unhide HS).low _ _ (unhide HD2); omega⟩
  clear hst hdef hD HS HGr u0
  dsimp only
  go_wp2_with fail
  obtain ⟨G3, hg3, hs3, hd3, hsub⟩ := unhide HW
  have u0 : (wr.alloc (.cells #[.int .i64 2] 3)).cell? ⟨wr.heap.size, 0, none⟩ = some (.int .i64 2) := (cell_of_row _ _ 0 _ 3 (0, 0) (hs3.keep _ _ hg3.u10)).trans rfl
  have HEND : Hid ((((wr.alloc (.cells #[.int .i64 2] 3)).heap[D]? = some (.deferred (some [])) ∧ B ≤ D) ∧ ((wr.alloc (.cells #[.int .i64 2] 3)).heap[E]? = some (.deferred (some [])) ∧ B ≤ E) ∧ D ≠ E) ∧ (wr.alloc (.cells #[.int .i64 2] 3)).heap[rb]? = some (.cells #[.bool false] 4 (0, 0)) ∧ B ≤ rb ∧ Below B w0 (wr.alloc (.cells #[.int .i64 2] 3)) ∧ B ≤ (wr.alloc (.cells #[.int .i64 2] 3)).heap.size) := by
    refine ⟨⟨⟨hs3.keep _ _ (hsub _ _ (unhide HD2)), unhide HBD⟩, ⟨hs3.keep _ _ hd3, (unhide HBE).1⟩, (unhide HBE).2⟩, hs3.keep _ _ hg3.r, hg3.hrb, hs3.below, ?_⟩
    obtain ⟨ps, n, -, h2⟩ := hs3.duo
    exact h2.room
  clear HW hg3 hs3 hd3 hsub v0 HB2
  generalize (wr.alloc (.cells #[.int .i64 2] 3)) = u3 at *
  generalize wr.heap.size = b10c at *
  rw [rounds_succ]
  go_wp2_with fail
  exact unhide HQ _ _ _ _ _ _ _ _ _ _ _ _ _ _ _ _ _ _ _ _ _ _ _ _ _ _ _ _ _ _ _ _ _ _ _ _ _ _ _ _ _ _ _ _ _ _ _ _ _ _ _ _ _ _ _ _ _ _ _ _ _ _ _ _ _ D E u3 (unhide HEND)
end

section
open Go.RowKit Go.Maps
def o25 : Obj := .cells #[.slice none 0 0] 25 (0, 0)

theorem row_base {w w' : World} {e : TypeId} {v : Value} {L s s' : Nat} {xs : List Value} (h : w.ownsRow s e 2 v L xs) (hs : s' ≤ s) (hk : ∀ k, v.ownBlock = some k → w'.heap[k]? = w.heap[k]?) : w'.ownsRow s' e 2 v L xs := by
  refine ⟨h.1, h.2.imp id fun ⟨g, cap, cur, e1, hg, hh, rest⟩ => ⟨g, cap, cur, e1, Nat.le_trans hs hg, ?_, rest⟩⟩
  rw [hk g (by rw [e1]; rfl)]
  exact hh

section
variable {w5 u : World} {ps : List (Int × Bool)} {its : List (Int × Int)} {β : List Nat} {bx b : Nat} {pv wv : Value}

def P8 (w5 : World) (β : List Nat) (u : World) : Prop := Below w5.heap.size w5 u ∧ ∀ b ∈ β, w5.heap.size ≤ b ∧ u.heap[b]? = some o25
def PA8 (w5 : World) (ps : List (Int × Bool)) (β : List Nat) (bx : Nat) (pv : Value) (u : World) : Prop := P8 w5 β u ∧ u.cell? ⟨bx, 0, none⟩ = some pv ∧ u.ownsRow w5.heap.size 67 2 pv ps.length (encN ps) ∧ w5.heap.size ≤ bx ∧ ∀ b ∈ β, ¬ YB bx pv b
def PW8 (w5 : World) (ps : List (Int × Bool)) (β : List Nat) (bx : Nat) (pv wv : Value) (u : World) : Prop := PA8 w5 ps β bx pv u ∧ u.ownsRow w5.heap.size 47 2 wv (ris ps ps.length).length (enc .i64 (ris ps ps.length)) ∧ ∀ b ∈ β, wv.ownBlock ≠ some b
/-- All is made. -/
def Fin8 (w5 : World) (ps : List (Int × Bool)) (bx b9 : Nat) (pv wv : Value) (u : World) : Prop := Below w5.heap.size w5 u ∧ (u.heap[b9]? = some (.cells #[wv] 25 (0, 0)) ∧ w5.heap.size ≤ b9) ∧ (u.cell? ⟨bx, 0, none⟩ = some pv ∧ w5.heap.size ≤ bx ∧ u.ownsRow w5.heap.size 67 2 pv ps.length (encN ps)) ∧ u.ownsRow w5.heap.size 47 2 wv (ris ps ps.length).length (enc .i64 (ris ps ps.length))

theorem P8.box (h : P8 w5 [] u) : P8 w5 [u.heap.size] (u.alloc o25) := ⟨h.1.alloc h.1.size _, fun b hb => by
  cases List.mem_singleton.1 hb
  exact ⟨h.1.size, heap_alloc_new _ _⟩⟩
theorem YB.lt (hc : u.cell? ⟨bx, 0, none⟩ = some pv) {L s : Nat} {xs : List Value} {e : TypeId} (hr : u.ownsRow s e 2 pv L xs) {k : Nat} (hk : YB bx pv k) : k < u.heap.size := by
  rcases hk with rfl | hk
  · exact World.block_lt_of_cell? _ _ hc
  · exact (hr.lt k hk).2
theorem P8.grow {w' : World} (h : P8 w5 β u) (hb : Below u.heap.size u w') : P8 w5 β w' := ⟨h.1.trans (hb.mono h.1.size), fun b hx => ⟨(h.2 b hx).1, (hb.block b (Array.getElem?_eq_some_iff.1 (h.2 b hx).2).1).trans (h.2 b hx).2⟩⟩
theorem PA8.grow {w' : World} (h : PA8 w5 ps β bx pv u) (hb : Below u.heap.size u w') : PA8 w5 ps β bx pv w' := by
  obtain ⟨h1, h2, h3, h4, h5⟩ := h
  exact ⟨h1.grow hb, (cell_of_heap (x := ⟨bx, 0, none⟩) (hb.block bx (World.block_lt_of_cell? _ _ h2))).trans h2, row_base h3 (Nat.le_refl _) (fun k hk => hb.block k (h3.lt k hk).2), h4, h5⟩
theorem PA8.box (h : PA8 w5 ps [] bx pv u) : PA8 w5 ps [u.heap.size] bx pv (u.alloc o25) := by
  obtain ⟨h1, h2, h3, h4, h5⟩ := h.grow ((Below.refl u.heap.size u).alloc (Nat.le_refl _) o25)
  refine ⟨h.1.box, h2, h3, h4, fun b hb hy => ?_⟩
  cases List.mem_singleton.1 hb
  have := YB.lt h.2.1 h.2.2.1 hy
  omega
theorem PW8.last (h : PW8 w5 ps [] bx pv wv u) : Fin8 w5 ps bx u.heap.size pv wv (u.alloc (.cells #[wv] 25)) := by
  have ba : Below u.heap.size u (u.alloc (.cells #[wv] 25)) := (Below.refl u.heap.size u).alloc (Nat.le_refl _) _
  obtain ⟨h1, h2, -⟩ := h
  obtain ⟨k1, k2, k3, k4, -⟩ := h1.grow ba
  exact ⟨k1.1, ⟨heap_alloc_new _ _, h1.1.1.size⟩, ⟨k2, k4, k3⟩, row_base h2 (Nat.le_refl _) (fun k hk => ba.block k (h2.lt k hk).2)⟩
theorem PW8.stored (h : PW8 w5 ps [b] bx pv wv u) : Fin8 w5 ps bx b pv wv (u.setCell ⟨b, 0, none⟩ wv) := by
  obtain ⟨⟨h1, h2, h3, h4, h5⟩, h6, h7⟩ := h
  have hb := h1.2 b (List.mem_singleton.2 rfl)
  have n1 := h5 b (List.mem_singleton.2 rfl)
  have n2 := h7 b (List.mem_singleton.2 rfl)
  refine ⟨h1.1.setCell (p := ⟨b, 0, none⟩) hb.1 _, ⟨by rw [heap_setCell_same _ _ _ _ _ _ hb.2]; rfl, hb.1⟩, ⟨?_, h4, row_base h3 (Nat.le_refl _) (fun k hk => heap_setCell_other _ _ _ _ (fun e => by rw [e] at hk; exact n1 (.inr hk)))⟩, row_base h6 (Nat.le_refl _) (fun k hk => heap_setCell_other _ _ _ _ (fun e => by rw [e] at hk; exact n2 hk))⟩
  exact (cell_of_heap (x := ⟨bx, 0, none⟩) (heap_setCell_other _ _ _ _ (fun e => n1 (.inl e.symm)))).trans h2

variable {B : Nat} {w0 : World} {t n : Nat} {most : Int} {X : Nat → Prop} {v : Value}
theorem all8 [Inhabited EntI] (hd : Duo X B w0 t most ps n w5) (h : P8 w5 β u) : Calls Try.prog 18 #[.pointer (some ⟨t, 0, none⟩)] u fun e w' => ∃ (bx : Nat) (pv : Value), e = .returned (.func (.func 45) #[] #[.pointer (some ⟨bx, 0, none⟩)]) ∧ Hid (PA8 w5 ps β bx pv w') := by
  refine (allN (hd.step h.1).live).mono ?_
  rintro e w' ⟨bx, pv, rfl, hh⟩
  obtain ⟨k1, k2, k3, k4, k5⟩ := unhide hh
  refine ⟨bx, pv, rfl, h.grow k5, k1, row_base k2 h.1.size (fun _ _ => rfl), Nat.le_trans h.1.size k3, fun b hb hy => ?_⟩
  have := (Array.getElem?_eq_some_iff.1 (h.2 b hb).2).1
  rcases hy with rfl | hy
  · omega
  · have := (k2.lt b hy).1
    omega
theorem ris8 (hrow : w5.ownsRow 0 47 2 v its.length (enc .i64 its)) (hrel : Rel ps its) (hL : its.length ≤ 1000000) (hp6 : ps.length ≤ 65536) (h : PA8 w5 ps β bx pv u) : Calls Try.prog 19 #[.agg #[.int .i64 most, v]] u fun e w' => ∃ (aw : Option Addr) (cw : Nat), e = .returned (.slice aw (ris ps ps.length).length cw) ∧ Hid (PW8 w5 ps β bx pv (.slice aw (ris ps ps.length).length cw) w') := by
  refine (refRising most u (items_below hrow h.1.1) hL hrel hp6).mono ?_
  rintro e w' ⟨v', rfl, hh⟩
  obtain ⟨k1, k2⟩ := unhide hh
  obtain ⟨a, c, rfl⟩ := item_shape (items_kept k1 (fun _ _ => rfl))
  refine ⟨a, c, rfl, h.grow k2, row_base k1 h.1.1.size (fun _ _ => rfl), fun b hb hy => ?_⟩
  have := (Array.getElem?_eq_some_iff.1 (h.1.2 b hb).2).1
  have := (k1.lt b hy).1
  omega

/-- The cells that are read. -/
def Cs8 (b5 M t : Nat) (most : Int) (v : Value) (w' : World) : Prop := w'.cell? ⟨b5, 0, none⟩ = some (.pointer (some ⟨t, 0, none⟩)) ∧ w'.cell? ⟨M, 0, none⟩ = some (.int .i64 most) ∧ w'.cell? ⟨M, 1, none⟩ = some v
theorem cs8 {b5 M : Nat} (h : Cs8 b5 M t most v w5) (hb : Below w5.heap.size w5 u) : Cs8 b5 M t most v u :=
  ⟨(hb.cell (p := ⟨b5, 0, none⟩) (World.block_lt_of_cell? _ _ h.1)).trans h.1, (hb.cell (p := ⟨M, 0, none⟩) (World.block_lt_of_cell? _ _ h.2.1)).trans h.2.1, (hb.cell (p := ⟨M, 1, none⟩) (World.block_lt_of_cell? _ _ h.2.2)).trans h.2.2⟩
theorem box8 {b5 M : Nat} (h : Cs8 b5 M t most v w5) (hp : P8 w5 [b] u) : u.cell? ⟨b, 0, none⟩ = some (.slice none 0 0) ∧ u.frozen? ⟨b, 0, none⟩ = false ∧ ¬ b = b5 ∧ ¬ b5 = b ∧ ¬ b = M ∧ ¬ M = b := by
  have h1 := hp.2 b (List.mem_singleton.2 rfl)
  have h2 := World.block_lt_of_cell? _ _ h.1
  have h3 := World.block_lt_of_cell? _ _ h.2.1
  simp only at h2 h3
  exact ⟨(cell_of_row _ _ 0 _ 25 (0, 0) h1.2).trans rfl, frozen_of_row _ _ 0 _ _ h1.2, by omega, by omega, by omega, by omega⟩
end
end

section
open Go.RowKit Go.Maps
/-- The first of two. -/
def headOf : Code → Code
  | .seq a _ => a
  | c => c

set_option maxHeartbeats 8000000 in
set_option maxRecDepth 100000 in
theorem own8 [Inhabited EntI] {B : Nat} {w0 w5 : World} {t n tb M vn vc : Nat} {va : Option Addr} {X : Nat → Prop} {ps : List (Int × Bool)} {its : List (Int × Int)} {ds : List Deferred} (a0 a1 a2 a3 a4 a7 a10 a11 a12 a13 a14 a15 a16 a17 a18 a19 a20 a21 a22 a23 a24 a25 a26 a27 a28 a29 a30 a31 a32 a33 a34 a35 a36 a37 a38 a39 a40 a41 a42 a43 a44 a49 a50 a51 a52 a53 a54 a55 a56 a57 a58 a59 a60 a61 a62 a63 a64 a65 a66 a67 a68 a69 a70 a71 a72 a73 a74 a75 a76 a77 a78 a79 a80 a81 a82 a83 a84 a85 a86 a87 a88 a89 a90 a91 a92 a93 a94 a95 a96 a97 a98 a99 a100 a101 a102 a103 a104 a105 a106 a107 a108 a109 a110 a111 a112 a113 a114 a115 a116 a117 a118 a119 a120 a121 a122 a123 a124 a125 a126 a127 a128 a129 a130 a131 : Value) (Q : Exit → Act → World → Prop)
    (HD : Hid (Duo X B w0 t 9 ps n w5)) (HI : Hid (w5.ownsRow 0 47 2 (.slice va vn vc) its.length (enc .i64 its) ∧ Rel ps its ∧ its.length ≤ 1000000 ∧ ps.length ≤ 65536)) (HC : Hid (Cs8 tb M t 9 (.slice va vn vc) w5))
    (HQ : Hid (∀ (b45 b46 b47 b48 : Value) (bx wb cw : Nat) (pv : Value) (aw : Option Addr) (wq : World), Fin8 w5 ps bx wb pv (.slice aw (ris ps ps.length).length cw) wq → Q .normal ⟨#[a0, a1, a2, a3, a4, .pointer (some ⟨tb, 0, none⟩), .pointer (some ⟨M, 0, none⟩), a7, .func (.func 45) #[] #[.pointer (some ⟨bx, 0, none⟩)], .pointer (some ⟨wb, 0, none⟩), a10, a11, a12, a13, a14, a15, a16, a17, a18, a19, a20, a21, a22, a23, a24, a25, a26, a27, a28, a29, a30, a31, a32, a33, a34, a35, a36, a37, a38, a39, a40, a41, a42, a43, a44, b45, b46, b47, b48, a49, a50, a51, a52, a53, a54, a55, a56, a57, a58, a59, a60, a61, a62, a63, a64, a65, a66, a67, a68, a69, a70, a71, a72, a73, a74, a75, a76, a77, a78, a79, a80, a81, a82, a83, a84, a85, a86, a87, a88, a89, a90, a91, a92, a93, a94, a95, a96, a97, a98, a99, a100, a101, a102, a103, a104, a105, a106, a107, a108, a109, a110, a111, a112, a113, a114, a115, a116, a117, a118, a119, a120, a121, a122, a123, a124, a125, a126, a127, a128, a129, a130, a131], ds⟩ wq)) :
    Code.wp Try.prog (headOf ((Try.f6.body.bind (atRegion 8)).getD .skip)) Q ⟨#[a0, a1, a2, a3, a4, .pointer (some ⟨tb, 0, none⟩), .pointer (some ⟨M, 0, none⟩), a7, undef, undef, a10, a11, a12, a13, a14, a15, a16, a17, a18, a19, a20, a21, a22, a23, a24, a25, a26, a27, a28, a29, a30, a31, a32, a33, a34, a35, a36, a37, a38, a39, a40, a41, a42, a43, a44, undef, undef, undef, undef, a49, a50, a51, a52, a53, a54, a55, a56, a57, a58, a59, a60, a61, a62, a63, a64, a65, a66, a67, a68, a69, a70, a71, a72, a73, a74, a75, a76, a77, a78, a79, a80, a81, a82, a83, a84, a85, a86, a87, a88, a89, a90, a91, a92, a93, a94, a95, a96, a97, a98, a99, a100, a101, a102, a103, a104, a105, a106, a107, a108, a109, a110, a111, a112, a113, a114, a115, a116, a117, a118, a119, a120, a121, a122, a123, a124, a125, a126, a127, a128, a129, a130, a131], ds⟩ w5 := by
  conv => arg 2; whnf
  have CC : ∀ u, P8 w5 [] u → u.cell? ⟨tb, 0, none⟩ = some (.pointer (some ⟨t, 0, none⟩)) ∧ u.cell? ⟨M, 0, none⟩ = some (.int .i64 9) ∧ u.cell? ⟨M, 1, none⟩ = some (.slice va vn vc) := fun u hu => cs8 (unhide HC) hu.1
  have CCb : ∀ b u, P8 w5 [b] u → (u.cell? ⟨tb, 0, none⟩ = some (.pointer (some ⟨t, 0, none⟩)) ∧ u.cell? ⟨M, 0, none⟩ = some (.int .i64 9) ∧ u.cell? ⟨M, 1, none⟩ = some (.slice va vn vc)) ∧ u.cell? ⟨b, 0, none⟩ = some (.slice none 0 0) ∧ u.frozen? ⟨b, 0, none⟩ = false ∧ ¬ b = tb ∧ ¬ tb = b ∧ ¬ b = M ∧ ¬ M = b := fun b u hu => ⟨cs8 (unhide HC) hu.1, box8 (unhide HC) hu⟩
  have PD : ∀ q, P8 w5 [] (w5.drewN q) := fun q => ⟨below_drewN (Below.refl _ _) q, fun b hb => by cases hb⟩
  have CA0 : Hid (∀ q, Calls Try.prog 18 #[.pointer (some ⟨t, 0, none⟩)] (w5.drewN q) fun e w' => ∃ (bx : Nat) (pv : Value), e = .returned (.func (.func 45) #[] #[.pointer (some ⟨bx, 0, none⟩)]) ∧ (w'.cell? ⟨tb, 0, none⟩ = some (.pointer (some ⟨t, 0, none⟩)) ∧ w'.cell? ⟨M, 0, none⟩ = some (.int .i64 9) ∧ w'.cell? ⟨M, 1, none⟩ = some (.slice va vn vc)) ∧ Hid (PA8 w5 ps [] bx pv w')) := fun q =>
    (all8 (unhide HD) (PD q)).mono fun e w' ⟨bx, pv, h1, h2⟩ => ⟨bx, pv, h1, CC _ (unhide h2).1, h2⟩
  have CA1 : Hid (∀ q, Calls Try.prog 18 #[.pointer (some ⟨t, 0, none⟩)] ((w5.drewN q).alloc o25) fun e w' => ∃ (bx : Nat) (pv : Value), e = .returned (.func (.func 45) #[] #[.pointer (some ⟨bx, 0, none⟩)]) ∧ (w'.cell? ⟨tb, 0, none⟩ = some (.pointer (some ⟨t, 0, none⟩)) ∧ w'.cell? ⟨M, 0, none⟩ = some (.int .i64 9) ∧ w'.cell? ⟨M, 1, none⟩ = some (.slice va vn vc)) ∧ (w'.cell? ⟨w5.heap.size, 0, none⟩ = some (.slice none 0 0) ∧ w'.frozen? ⟨w5.heap.size, 0, none⟩ = false ∧ ¬ w5.heap.size = tb ∧ ¬ tb = w5.heap.size ∧ ¬ w5.heap.size = M ∧ ¬ M = w5.heap.size) ∧ Hid (PA8 w5 ps [w5.heap.size] bx pv w')) := fun q =>
    (all8 (unhide HD) (PD q).box).mono fun e w' ⟨bx, pv, h1, h2⟩ => ⟨bx, pv, h1, (CCb _ _ (unhide h2).1).1, (CCb _ _ (unhide h2).1).2, h2⟩
  have CB0 : Hid (∀ (u : World) (bx : Nat) (pv : Value), Hid (PA8 w5 ps [] bx pv u) → Calls Try.prog 19 #[.agg #[.int .i64 9, .slice va vn vc]] u fun e w' => ∃ (aw : Option Addr) (cw : Nat), e = .returned (.slice aw (ris ps ps.length).length cw) ∧ (w'.cell? ⟨tb, 0, none⟩ = some (.pointer (some ⟨t, 0, none⟩)) ∧ w'.cell? ⟨M, 0, none⟩ = some (.int .i64 9) ∧ w'.cell? ⟨M, 1, none⟩ = some (.slice va vn vc)) ∧ Hid (PW8 w5 ps [] bx pv (.slice aw (ris ps ps.length).length cw) w')) := fun u bx pv h =>
    (ris8 (unhide HI).1 (unhide HI).2.1 (unhide HI).2.2.1 (unhide HI).2.2.2 (unhide h)).mono fun e w' ⟨aw, cw, h1, h2⟩ => ⟨aw, cw, h1, CC _ (unhide h2).1.1, h2⟩
  have CB1 : Hid (∀ (u : World) (bx : Nat) (pv : Value), Hid (PA8 w5 ps [] bx pv u) → Calls Try.prog 19 #[.agg #[.int .i64 9, .slice va vn vc]] (u.alloc o25) fun e w' => ∃ (aw : Option Addr) (cw : Nat), e = .returned (.slice aw (ris ps ps.length).length cw) ∧ (w'.cell? ⟨tb, 0, none⟩ = some (.pointer (some ⟨t, 0, none⟩)) ∧ w'.cell? ⟨M, 0, none⟩ = some (.int .i64 9) ∧ w'.cell? ⟨M, 1, none⟩ = some (.slice va vn vc)) ∧ (w'.cell? ⟨u.heap.size, 0, none⟩ = some (.slice none 0 0) ∧ w'.frozen? ⟨u.heap.size, 0, none⟩ = false ∧ ¬ u.heap.size = tb ∧ ¬ tb = u.heap.size ∧ ¬ u.heap.size = M ∧ ¬ M = u.heap.size) ∧ Hid (PW8 w5 ps [u.heap.size] bx pv (.slice aw (ris ps ps.length).length cw) w')) := fun u bx pv h =>
    (ris8 (unhide HI).1 (unhide HI).2.1 (unhide HI).2.2.1 (unhide HI).2.2.2 (unhide h).box).mono fun e w' ⟨aw, cw, h1, h2⟩ => ⟨aw, cw, h1, (CCb _ _ (unhide h2).1.1).1, (CCb _ _ (unhide h2).1.1).2, h2⟩
  have CB2 : Hid (∀ (u : World) (bx : Nat) (pv : Value) (b : Nat), Hid (PA8 w5 ps [b] bx pv u) → Calls Try.prog 19 #[.agg #[.int .i64 9, .slice va vn vc]] u fun e w' => ∃ (aw : Option Addr) (cw : Nat), e = .returned (.slice aw (ris ps ps.length).length cw) ∧ (w'.cell? ⟨tb, 0, none⟩ = some (.pointer (some ⟨t, 0, none⟩)) ∧ w'.cell? ⟨M, 0, none⟩ = some (.int .i64 9) ∧ w'.cell? ⟨M, 1, none⟩ = some (.slice va vn vc)) ∧ (w'.cell? ⟨b, 0, none⟩ = some (.slice none 0 0) ∧ w'.frozen? ⟨b, 0, none⟩ = false ∧ ¬ b = tb ∧ ¬ tb = b ∧ ¬ b = M ∧ ¬ M = b) ∧ Hid (PW8 w5 ps [b] bx pv (.slice aw (ris ps ps.length).length cw) w')) := fun u bx pv b h =>
    (ris8 (unhide HI).1 (unhide HI).2.1 (unhide HI).2.2.1 (unhide HI).2.2.2 (unhide h)).mono fun e w' ⟨aw, cw, h1, h2⟩ => ⟨aw, cw, h1, (CCb _ _ (unhide h2).1.1).1, (CCb _ _ (unhide h2).1.1).2, h2⟩
  obtain ⟨m5, m0, m1⟩ := CC w5 ⟨Below.refl _ _, fun b hb => by cases hb⟩
  clear CC CCb PD HD HI HC
  generalize (ris ps ps.length).length = R at *
  refine wp_region_noPanic ?_
  go_region_held3 (fun u => u.cell? ⟨tb, 0, none⟩ = some (.pointer (some ⟨t, 0, none⟩)) ∧ u.cell? ⟨M, 0, none⟩ = some (.int .i64 9) ∧ u.cell? ⟨M, 1, none⟩ = some (.slice va vn vc)) (first
      | exact ⟨m5, m0, m1⟩
      | exact dd1
      | (go_keep; done)) (first
      | (go_at_call 18; refine (unhide CA0 _).mono ?_; rintro e w' ⟨bx, pv, rfl, dd1, hT⟩)
      | (go_at_call 18; refine (unhide CA1 _).mono ?_; rintro e w' ⟨bx, pv, rfl, dd1, ⟨dd2, dd3, ne1, ne2, ne3, ne4⟩, hT⟩)
      | (go_at_call 19; refine (unhide CB0 _ _ _ (by assumption)).mono ?_; rintro e w' ⟨aw, cw, rfl, dd1, hT⟩)
      | (go_at_call 19; refine (unhide CB1 _ _ _ (by assumption)).mono ?_; rintro e w' ⟨aw, cw, rfl, dd1, ⟨dd2, dd3, ne1, ne2, ne3, ne4⟩, hT⟩)
      | (go_at_call 19; refine (unhide CB2 _ _ _ _ (by assumption)).mono ?_; rintro e w' ⟨aw, cw, rfl, dd1, ⟨dd2, dd3, ne1, ne2, ne3, ne4⟩, hT⟩))
  all_goals
    refine NoPanic.normal ?_
    first
    | exact unhide HQ _ _ _ _ _ _ _ _ _ _ (unhide hT).last
    | exact unhide HQ _ _ _ _ _ _ _ _ _ _ (unhide hT).stored
end

end Go.Proofs.Ytkdlhnfagghppaa
