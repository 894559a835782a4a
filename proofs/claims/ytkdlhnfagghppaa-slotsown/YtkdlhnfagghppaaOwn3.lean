/- One turn of SlotsOwn. -/
import Derived.Test.YtkdlhnfagghppaaOwn2
import Derived.OwnWalkIn
import Derived.TacticsInMore
import Derived.Deep.RegionHeld3
import Derived.Deep.CutRange
namespace Go.Proofs.Ytkdlhnfagghppaa
open Go.RowKit Go.Maps

/-- The code from the region n on, as it stands in a row of statements. -/
def atRegion (n : Nat) : Code → Option Code
  | .seq a b => match a with
    | .region id ops d => if id = n then some (.seq (.region id ops d) b) else atRegion n b
    | _ => match atRegion n a with
      | some c => some c
      | none => atRegion n b
  | .cond _ a b => match atRegion n a with
    | some c => some c
    | none => atRegion n b
  | .block _ c => atRegion n c
  | .loop c => atRegion n c
  | .scope c => atRegion n c
  | _ => none

/-- The blocks beside the table. -/
structure GearO (B t sb rb b5 b9 b10 bx : Nat) (stop tt : Int) (wa : Option Addr) (wn wc : Nat) (pv : Value) (psl : List (Int × Bool)) (G : Nat → Option Obj) : Prop where
  s : G sb = some (.cells #[.int .i64 stop] 3 (0, 0))
  r : G rb = some (.cells #[.bool false] 4 (0, 0))
  t5 : G b5 = some (.cells #[.pointer (some ⟨t, 0, none⟩)] 23 (0, 0))
  w9 : G b9 = some (.cells #[.slice wa wn wc] 25 (0, 0))
  u10 : G b10 = some (.cells #[.int .i64 tt] 3 (0, 0))
  len : wn = (ris psl psl.length).length
  row : ∀ W : World, (∀ b o, G b = some o → W.heap[b]? = some o) → W.ownsRow 0 47 2 (.slice wa wn wc) wn (enc .i64 (ris psl psl.length))
  it : ∀ W : World, (∀ b o, G b = some o → W.heap[b]? = some o) → W.cell? ⟨bx, 0, none⟩ = some pv ∧ W.ownsRow 0 67 2 pv psl.length (encN psl)
  yb : ∀ b, YB bx pv b → ∃ o, G b = some o
  n9 : psl.length ≤ 9
  hrb : B ≤ rb

/-- G, but o at b. -/
def Gp (G : Nat → Option Obj) (b : Nat) (o : Obj) : Nat → Option Obj := fun k => if k = b then some o else G k
theorem Gp_self (G : Nat → Option Obj) (b : Nat) (o : Obj) : Gp G b o b = some o := if_pos rfl
theorem Gp_other (G : Nat → Option Obj) {b k : Nat} (o : Obj) (h : k ≠ b) : Gp G b o k = G k := if_neg h
theorem Gp_gp (G : Nat → Option Obj) (b : Nat) (o o' : Obj) : (fun k => if k = b then some o' else Gp G b o k) = Gp G b o' := by
  funext k
  by_cases e : k = b
  · simp [Gp, e]
  · simp [Gp, e]

theorem range_g2 {F : Fence} {n : Nat} {P : Program} {α : Type} {g : Operand} {ps : Array Tmp} {assign body : Code} {Q : Exit → Act → World → Prop} {a : Act} {w : World}
    (hro : F.round = none) (h1 : 1 ≤ n) {gf : Nat} {lb : Array Value} (hg : a.eval g = .func (.func gf) #[] lb) (hFg : F.fn gf) (eg : ∀ args w, (callFunc gf args).run P w = .ok (.enter gf args) w)
    {encs : α → Array Value} {Kp : World → World → Prop} {S Sp : List α → Prop} {N : Nat} {w0 : World} (hseq : SeqStopsK F (n - 1) P gf lb encs Kp S Sp N w0)
    (hKt : ∀ {A B C : World}, Kp A B → Kp B C → Kp A C) (hKb : ∀ (W : World) (l : Nat) (o o' : Obj), w.heap.size ≤ l → W.heap[l]? = some o → o.isCells = false → o.isWalk = false → Kp W (W.putObj l o')) (hb0 : Below w0.heap.size w0 w) (hps : ∀ x, (encs x).size = ps.size)
    (I J : List α → World → Prop) (bad : List α → Prop) (id : Nat) (hI : OwnFrom w.heap.size I) (hJ : OwnFrom w.heap.size J) (h0 : I [] w) (a₁ : α → Act) (hbad : ∀ pre, Sp pre → ¬ bad pre) (hE : ∀ a' W', Q .normal a' W' → Q (.exit id) a' W')
    (hassign : ∀ (l : Nat) (x : α) (W : World) (K : Act → World → Prop), K (a₁ x) W →
      assign.wpIn (F.inRound l) (n - 1 - 1) P (Exit.then K (fun _ _ _ => False)) { tmps := (ps.zip (encs x)).foldl (fun t (p, v) => t.setIfInBounds p v) a.tmps, defers := [] } W)
    (hbody : ∀ (l : Nat) (pre : List α) (x : α) (W : World), I pre W → pre.length < N → body.wpIn (F.inRound l) (n - 1 - 1) P (ownPostG w.heap.size Kp I (fun c pre W => (c = .exit id ∧ J pre W) ∨ bad pre) (pre ++ [x]) W) (a₁ x) W)
    (hnext : ∀ (D : Nat) (pre : List α) (W : World), w.heap.size ≤ D → (S pre ∧ I pre W ∨ Sp pre ∧ J pre W) → W.heap[D]? = some (.deferred (some [])) → Q .normal { a with defers := { target := .collected D, args := #[] } :: a.defers } W) :
    (Code.rangeFunc g ps assign body).wpIn F n P Q a w :=
  wpIn_rangeFunc_ownG hro h1 hg hFg eg hseq hKt hKb hb0 hps I (fun c pre W => (c = .exit id ∧ J pre W) ∨ bad pre) hI
    (fun _ s _ _ _ hs hg hr => hs.imp (fun h => ⟨h.1, hJ s _ _ _ h.2 hg hr⟩) _root_.id) h0 a₁ hassign hbody
    (fun D xs W h1 h2 h3 h4 => hnext D xs W h1 (.inl ⟨h2, h3⟩) h4)
    (fun D c pre W h1 h2 h3 h4 => by
      rcases h3 with ⟨rfl, h3⟩ | h3
      · exact wpIn_exit (hE _ _ (hnext D pre W h1 (.inr ⟨h2, h3⟩) h4))
      · exact absurd h3 (hbad pre h2))

theorem StO.le [Inhabited EntI] {M B : Nat} {w0 W : World} {t N N' : Nat} {most : Int} {G : Nat → Option Obj} (h : StO M B w0 t most N G W) (hn : N ≤ N') : StO M B w0 t most N' G W := by
  obtain ⟨ps, n, h1, h2⟩ := h.duo
  exact ⟨h.keep, h.low, ps, n, Nat.le_trans h1 hn, h2⟩

/-- The cells amid the range. -/
theorem cells_o [Inhabited EntI] {M B : Nat} {w0 W : World} {t N : Nat} {most : Int} {sb rb b5 b9 b10 b11 bx : Nat} {stop tt : Int} {wa : Option Addr} {wn wc : Nat} {pv : Value} {psl : List (Int × Bool)} {G : Nat → Option Obj} {j : Int} (hg : GearO B t sb rb b5 b9 b10 bx stop tt wa wn wc pv psl G) (hlt : ∀ b o, G b = some o → b < b11) (h : StO M B w0 t most N (Gp G b11 (.cells #[.int .i64 j] 3 (0, 0))) W) :
    ((W.cell? ⟨b11, 0, none⟩ = some (.int .i64 j) ∧ ∀ o, W.frozen? ⟨b11, o, none⟩ = false) ∧ W.cell? ⟨b5, 0, none⟩ = some (.pointer (some ⟨t, 0, none⟩)) ∧ W.cell? ⟨b9, 0, none⟩ = some (.slice wa wn wc) ∧ W.cell? ⟨b10, 0, none⟩ = some (.int .i64 tt) ∧ W.cell? ⟨sb, 0, none⟩ = some (.int .i64 stop) ∧ W.cell? ⟨rb, 0, none⟩ = some (.bool false) ∧ ∀ o, W.frozen? ⟨rb, o, none⟩ = false) ∧ ∀ b o, G b = some o → W.heap[b]? = some o := by
  have kp : ∀ b o, G b = some o → W.heap[b]? = some o := fun b o hb => h.keep b o (by rw [Gp_other _ _ (by have := hlt b o hb; omega)]; exact hb)
  have k11 := h.keep b11 _ (Gp_self _ _ _)
  exact ⟨⟨⟨(cell_of_row _ _ 0 _ 3 (0, 0) k11).trans rfl, fun o => frozen_of_row _ _ o _ _ k11⟩, (cell_of_row _ _ 0 _ 23 (0, 0) (kp _ _ hg.t5)).trans rfl, (cell_of_row _ _ 0 _ 25 (0, 0) (kp _ _ hg.w9)).trans rfl, (cell_of_row _ _ 0 _ 3 (0, 0) (kp _ _ hg.u10)).trans rfl, (cell_of_row _ _ 0 _ 3 (0, 0) (kp _ _ hg.s)).trans rfl, (cell_of_row _ _ 0 _ 4 (0, 0) (kp _ _ hg.r)).trans rfl, fun o => frozen_of_row _ _ o _ _ (kp _ _ hg.r)⟩, kp⟩

section
variable [Inhabited EntI] {M B : Nat} {w0 W0 W : World} {t N : Nat} {most : Int} {sb rb b5 b9 b10 b11 bx : Nat} {stop tt : Int} {wa : Option Addr} {wn wc : Nat} {pv : Value} {psl : List (Int × Bool)} {G : Nat → Option Obj} {j : Int}

/-- What stands after a call. -/
def After (M B : Nat) (w0 W0 : World) (t : Nat) (most : Int) (N : Nat) (G : Nat → Option Obj) (w' : World) : Prop := StO M B w0 t most N G w' ∧ KeepsFrom M W0 w'
theorem after_cells (hg : GearO B t sb rb b5 b9 b10 bx stop tt wa wn wc pv psl G) (hlt : ∀ b o, G b = some o → b < b11) {w' : World} (h0 : KeepsFrom M W0 W) (hs : StO M B w0 t most N (Gp G b11 (.cells #[.int .i64 j] 3 (0, 0))) w' ∧ KeepsFrom M W w' ∧ ∀ b o, Gp G b11 (.cells #[.int .i64 j] 3 (0, 0)) b = some o → w'.heap[b]? = W.heap[b]?) :
    (w'.cell? ⟨b11, 0, none⟩ = some (.int .i64 j) ∧ w'.cell? ⟨b5, 0, none⟩ = some (.pointer (some ⟨t, 0, none⟩)) ∧ w'.cell? ⟨b10, 0, none⟩ = some (.int .i64 tt) ∧ w'.cell? ⟨sb, 0, none⟩ = some (.int .i64 stop)) ∧ Hid (After M B w0 W0 t most N (Gp G b11 (.cells #[.int .i64 j] 3 (0, 0))) w') := by
  obtain ⟨⟨⟨n0, -⟩, t0, -, u0, s0, -, -⟩, -⟩ := cells_o hg hlt hs.1
  exact ⟨⟨n0, t0, u0, s0⟩, ⟨hs.1, h0.trans hs.2.1⟩⟩
theorem runDrop (hg : GearO B t sb rb b5 b9 b10 bx stop tt wa wn wc pv psl G) (hlt : ∀ b o, G b = some o → b < b11) (k : Int) (h : After M B w0 W0 t most N (Gp G b11 (.cells #[.int .i64 j] 3 (0, 0))) W) (hn : N ≤ 900000000) : Calls Try.prog 14 #[.pointer (some ⟨t, 0, none⟩), .int .i64 k] W fun e w' => ∃ r, e = .returned r ∧ (w'.cell? ⟨b11, 0, none⟩ = some (.int .i64 j) ∧ w'.cell? ⟨b5, 0, none⟩ = some (.pointer (some ⟨t, 0, none⟩)) ∧ w'.cell? ⟨b10, 0, none⟩ = some (.int .i64 tt) ∧ w'.cell? ⟨sb, 0, none⟩ = some (.int .i64 stop)) ∧ Hid (After M B w0 W0 t most (N + 65536) (Gp G b11 (.cells #[.int .i64 j] 3 (0, 0))) w') :=
  (h.1.drop k hn).mono fun _ _ ⟨_, _, he, hs⟩ => ⟨_, he, after_cells hg hlt h.2 (unhide hs)⟩
theorem runPut (hg : GearO B t sb rb b5 b9 b10 bx stop tt wa wn wc pv psl G) (hlt : ∀ b o, G b = some o → b < b11) (x : Int) (h : After M B w0 W0 t most N (Gp G b11 (.cells #[.int .i64 j] 3 (0, 0))) W) (hn : N ≤ 900000000) : Calls Try.prog 13 #[.pointer (some ⟨t, 0, none⟩), .int .i64 x] W fun e w' => ∃ r, e = .returned r ∧ (w'.cell? ⟨b11, 0, none⟩ = some (.int .i64 j) ∧ w'.cell? ⟨b5, 0, none⟩ = some (.pointer (some ⟨t, 0, none⟩)) ∧ w'.cell? ⟨b10, 0, none⟩ = some (.int .i64 tt) ∧ w'.cell? ⟨sb, 0, none⟩ = some (.int .i64 stop)) ∧ Hid (After M B w0 W0 t most (N + 65536) (Gp G b11 (.cells #[.int .i64 j] 3 (0, 0))) w') :=
  (h.1.put x hn).mono fun _ _ ⟨_, _, he, hs⟩ => ⟨_, he, after_cells hg hlt h.2 (unhide hs)⟩
theorem runSet (hg : GearO B t sb rb b5 b9 b10 bx stop tt wa wn wc pv psl G) (hlt : ∀ b o, G b = some o → b < b11) (k x : Int) (h : After M B w0 W0 t most N (Gp G b11 (.cells #[.int .i64 j] 3 (0, 0))) W) : Calls Try.prog 20 #[.pointer (some ⟨t, 0, none⟩), .int .i64 k, .int .i64 x] W fun e w' => ∃ r, e = .returned r ∧ (w'.cell? ⟨b11, 0, none⟩ = some (.int .i64 j) ∧ w'.cell? ⟨b5, 0, none⟩ = some (.pointer (some ⟨t, 0, none⟩)) ∧ w'.cell? ⟨b10, 0, none⟩ = some (.int .i64 tt) ∧ w'.cell? ⟨sb, 0, none⟩ = some (.int .i64 stop)) ∧ Hid (After M B w0 W0 t most (N + 65536) (Gp G b11 (.cells #[.int .i64 j] 3 (0, 0))) w') :=
  (h.1.set k x).mono fun _ _ ⟨_, he, hs⟩ => ⟨_, he, after_cells hg hlt h.2 (unhide hs)⟩
theorem kx_after (hg : GearO B t sb rb b5 b9 b10 bx stop tt wa wn wc pv psl G) (hlt : ∀ b o, G b = some o → b < b11) (hk : ∀ b o, G b = some o → W0.heap[b]? = some o) (h : After M B w0 W0 t most N (Gp G b11 (.cells #[.int .i64 j] 3 (0, 0))) W) : KX (YB bx pv) W0 W := fun b hb => by
  obtain ⟨o, ho⟩ := hg.yb b hb
  exact (h.1.keep b o (by rw [Gp_other _ _ (by have := hlt b o ho; omega)]; exact ho)).trans (hk b o ho).symm
end

attribute [local go_sem] Oper.semAt_some

set_option maxHeartbeats 8000000 in
set_option maxRecDepth 100000 in
theorem ownTurn [Inhabited EntI] {M B : Nat} {w0 u : World} {t N : Nat} {most : Int} {sb rb b5 b9 b10 bx : Nat} {stop tt : Int} {wa : Option Addr} {wn wc : Nat} {pv : Value} {psl : List (Int × Bool)} {G : Nat → Option Obj} {ds : List Deferred} (a0 a1 a2 a6 a7 a11 a12 a13 a14 a15 a16 a17 a18 a19 a20 a21 a22 a23 a24 a25 a26 a27 a28 a29 a30 a31 a32 a33 a34 a35 a36 a37 a38 a39 a40 a41 a42 a43 a44 a45 a46 a47 a48 a49 a50 a51 a52 a53 a54 a55 a56 a57 a58 a59 a60 a61 a62 a63 a64 a65 a66 a67 a68 a69 a70 a71 a72 a73 a74 a75 a76 a77 a78 a79 a80 a81 a82 a83 a84 a85 a86 a87 a88 a89 a90 a91 a92 a93 a94 a95 a96 a97 a98 a99 a100 a101 a102 a103 a104 a105 a106 a107 a108 a109 a110 a111 a112 a113 a114 a115 a116 a117 a118 a119 a120 a121 a122 a123 a124 a125 a126 a127 a128 a129 a130 a131 : Value) (Q : Exit → Act → World → Prop) (HG : Hid (GearO B t sb rb b5 b9 b10 bx stop tt wa wn wc pv psl G)) (HS : Hid (StO M B w0 t most N G u)) (HN : Hid (N ≤ 100000000 ∧ (tt = 0 ∨ tt = 1)))
    (HQ : Hid (∀ (b11 b12 b13 b55 b56 b57 b58 b59 b60 b61 b62 b63 b64 b65 b66 b67 b68 b69 b70 b71 b72 b73 b74 b75 b76 b77 b78 b79 b80 b81 b82 b83 b84 b85 b86 b87 b88 b89 b90 b91 b92 b93 b94 b95 b96 b97 b98 b99 b100 b101 b102 b103 b104 b105 b106 b107 b108 b109 b110 : Value) (D : Nat) (wq : World), u.heap.size ≤ D ∧ wq.heap[D]? = some (.deferred (some [])) ∧ StO wq.heap.size B w0 t most (N + 2000000) (Gp G D (.deferred (some []))) wq → Q .normal ⟨#[a0, a1, a2, .pointer (some ⟨sb, 0, none⟩), .pointer (some ⟨rb, 0, none⟩), .pointer (some ⟨b5, 0, none⟩), a6, a7, .func (.func 45) #[] #[.pointer (some ⟨bx, 0, none⟩)], .pointer (some ⟨b9, 0, none⟩), .pointer (some ⟨b10, 0, none⟩), b11, b12, b13, a14, a15, a16, a17, a18, a19, a20, a21, a22, a23, a24, a25, a26, a27, a28, a29, a30, a31, a32, a33, a34, a35, a36, a37, a38, a39, a40, a41, a42, a43, a44, a45, a46, a47, a48, a49, a50, a51, a52, a53, a54, b55, b56, b57, b58, b59, b60, b61, b62, b63, b64, b65, b66, b67, b68, b69, b70, b71, b72, b73, b74, b75, b76, b77, b78, b79, b80, b81, b82, b83, b84, b85, b86, b87, b88, b89, b90, b91, b92, b93, b94, b95, b96, b97, b98, b99, b100, b101, b102, b103, b104, b105, b106, b107, b108, b109, b110, a111, a112, a113, a114, a115, a116, a117, a118, a119, a120, a121, a122, a123, a124, a125, a126, a127, a128, a129, a130, a131], { target := .collected D, args := #[] } :: ds⟩ wq)) :
    Code.wp Try.prog ((Try.f6.body.bind (atRegion 14)).getD .skip) Q ⟨#[a0, a1, a2, .pointer (some ⟨sb, 0, none⟩), .pointer (some ⟨rb, 0, none⟩), .pointer (some ⟨b5, 0, none⟩), a6, a7, .func (.func 45) #[] #[.pointer (some ⟨bx, 0, none⟩)], .pointer (some ⟨b9, 0, none⟩), .pointer (some ⟨b10, 0, none⟩), a11, a12, a13, a14, a15, a16, a17, a18, a19, a20, a21, a22, a23, a24, a25, a26, a27, a28, a29, a30, a31, a32, a33, a34, a35, a36, a37, a38, a39, a40, a41, a42, a43, a44, a45, a46, a47, a48, a49, a50, a51, a52, a53, a54, a55, a56, a57, a58, a59, a60, a61, a62, a63, a64, a65, a66, a67, a68, a69, a70, a71, a72, a73, a74, a75, a76, a77, a78, a79, a80, a81, a82, a83, a84, a85, a86, a87, a88, a89, a90, a91, a92, a93, a94, a95, a96, a97, a98, a99, a100, a101, a102, a103, a104, a105, a106, a107, a108, a109, a110, a111, a112, a113, a114, a115, a116, a117, a118, a119, a120, a121, a122, a123, a124, a125, a126, a127, a128, a129, a130, a131], ds⟩ u := by
  conv => arg 2; whnf
  have hlt0 : ∀ b o, G b = some o → b < u.heap.size := fun b o hb => (Array.getElem?_eq_some_iff.1 ((unhide HS).keep b o hb)).1
  have HS1 : Hid (StO (u.alloc (.cells #[.int .i64 0] 3)).heap.size B w0 t most N (Gp G u.heap.size (.cells #[.int .i64 0] 3 (0, 0))) (u.alloc (.cells #[.int .i64 0] 3))) := (unhide HS).anew ((Below.refl _ _).alloc (Nat.le_refl _) _) (fun b o hb => by
    by_cases e : b = u.heap.size
    · subst e
      rw [Gp_self] at hb
      cases hb
      exact ⟨heap_alloc_new u _, .inr (.inl (Nat.le_refl _))⟩
    · rw [Gp_other _ _ e] at hb
      exact ⟨(((Below.refl u.heap.size u).alloc (Nat.le_refl _) _).block b (hlt0 b o hb)).trans ((unhide HS).keep b o hb), .inl hb⟩)
  have HLT := hide hlt0
  have HBR : Hid (B ≤ u.heap.size) := by
    obtain ⟨ps, n, -, h2⟩ := (unhide HS).duo
    exact h2.room
  clear hlt0
  go_upto_region 15 with fail
  obtain ⟨b11, hb11⟩ : ∃ b11, b11 = u.heap.size := ⟨_, rfl⟩
  rw [← hb11] at HS1 HLT HBR HQ ⊢
  clear hb11 HS
  generalize (u.alloc (.cells #[.int .i64 0] 3)) = v at *
  go_wp2_with fail
  have hsu : B ≤ v.heap.size := by
    obtain ⟨ps, n, -, h2⟩ := (unhide HS1).duo
    exact h2.room
  have h11 : b11 < v.heap.size := (unhide HS1).low _ _ (Gp_self _ _ _)
  have kp0 := (cells_o (unhide HG) (unhide HLT) (unhide HS1)).2
  have hseq := all_stops 4 (by omega) bx pv psl (by have := (unhide HG).n9; omega) v ((unhide HG).it v kp0).1 ((unhide HG).it v kp0).2
  have hyu : ∀ b, YB bx pv b → b < v.heap.size := fun b hb => by
    obtain ⟨o, ho⟩ := (unhide HG).yb b hb
    have := unhide HLT b o ho
    omega
  have HRP : Hid (∀ k, k ≤ psl.length → ris psl k <+: ris psl psl.length) := fun k hk => ris_prefix psl _ _ hk
  have HR9 : Hid ((ris psl psl.length).length ≤ 9) := by have := ris_length psl psl.length; have := (unhide HG).n9; show _ ≤ 9; omega
  have HROW : Hid (∀ W : World, (∀ b o, G b = some o → W.heap[b]? = some o) → ∀ (j : Nat) (k x : Int), (ris psl psl.length)[j]? = some (k, x) → ∃ g1, wa = some ⟨g1, 0, none⟩ ∧ W.cell? ⟨g1, j * 2, none⟩ = some (.int .i64 k) ∧ W.cell? ⟨g1, j * 2 + 1, none⟩ = some (.int .i64 x)) := fun W hW j k x hj => by
    have hrow := (unhide HG).row W hW
    have hlen := (unhide HG).len
    obtain ⟨j1, j2, j3⟩ := at_item hj
    rcases hrow.2 with ⟨e, e2⟩ | ⟨g, cap, cur, e, -⟩
    · omega
    · cases e
      have hoc := owns_cells hrow j (by omega)
      rw [j2, j3] at hoc
      exact ⟨g, rfl, hoc.1, hoc.2⟩
  have HWN : Hid (wn = (ris psl psl.length).length) := (unhide HG).len
  have HPL : Hid (psl.length ≤ 9) := (unhide HG).n9
  generalize ris psl psl.length = R at *
  clear kp0
  refine (wpIn_wide (n := 5)).1 ?_
  refine range_g2 (F := Fence.wide) (n := 5) rfl (by omega) (gf := 45) (lb := #[.pointer (some ⟨bx, 0, none⟩)]) rfl trivial (enters_of Try.func45 (by kernel_rfl) rfl) hseq KX.trans (kx_put (w := v) hyu) (Below.refl _ _) (fun _ => rfl)
    (fun pre W => StO v.heap.size B w0 t most (N + 196608 * pre.length) (Gp G b11 (.cells #[.int .i64 (pre.length : Nat)] 3 (0, 0))) W)
    (fun pre W => (tt = 0 ∧ ((pre.length : Nat) : Int) = stop) ∧ pre.length ≤ 9 ∧ StO v.heap.size B w0 t most (N + 196608 * pre.length) (Gp G b11 (.cells #[.int .i64 (pre.length : Nat)] 3 (0, 0))) W)
    (fun pre => ¬ pre <+: R) 4
    (fun s X Y row hs hg hr => hs.grown hsu hg hr)
    (fun s X Y row hs hg hr => ⟨hs.1, hs.2.1, hs.2.2.grown hsu hg hr⟩)
    (unhide HS1) (fun x => { tmps := #[a0, a1, a2, .pointer (some ⟨sb, 0, none⟩), .pointer (some ⟨rb, 0, none⟩), .pointer (some ⟨b5, 0, none⟩), a6, a7, .func (.func 45) #[] #[.pointer (some ⟨bx, 0, none⟩)], .pointer (some ⟨b9, 0, none⟩), .pointer (some ⟨b10, 0, none⟩), .pointer (some ⟨b11, 0, none⟩), .int .i64 x.1, .int .i64 x.2, a14, a15, a16, a17, a18, a19, a20, a21, a22, a23, a24, a25, a26, a27, a28, a29, a30, a31, a32, a33, a34, a35, a36, a37, a38, a39, a40, a41, a42, a43, a44, a45, a46, a47, a48, a49, a50, a51, a52, a53, a54, .func (.func 45) #[] #[.pointer (some ⟨bx, 0, none⟩)], .int .i64 x.1, .int .i64 x.2, a58, a59, a60, a61, a62, a63, a64, a65, a66, a67, a68, a69, a70, a71, a72, a73, a74, a75, a76, a77, a78, a79, a80, a81, a82, a83, a84, a85, a86, a87, a88, a89, a90, a91, a92, a93, a94, a95, a96, a97, a98, a99, a100, a101, a102, a103, a104, a105, a106, a107, a108, a109, a110, a111, a112, a113, a114, a115, a116, a117, a118, a119, a120, a121, a122, a123, a124, a125, a126, a127, a128, a129, a130, a131], defers := [] })
    (fun pre ⟨k, hk, e⟩ hb => hb (by rw [e]; exact unhide HRP k hk))
    (fun _ _ h => h)
    ?assign ?body ?next
  case assign =>
    intro l x W K hK
    dsimp only at hK ⊢
    go_simp
    gi_wp2
    exact hK
  case body =>
    rintro l pre ⟨xi, xx⟩ W hI hlen9
    dsimp only
    go_simp
    obtain ⟨⟨⟨n0, nf⟩, t0, l0, u0, s0, r0, rf⟩, kp⟩ := cells_o (unhide HG) (unhide HLT) hI
    have HC := hide (unhide HROW W kp)
    have HI := hide hI
    have hRz : (R.length : Int) ≤ 9 := by have := unhide HR9; omega
    have hpl : pre.length < 9 := by have := unhide HPL; omega
    have HKP := hide kp
    clear kp hI hseq hlen9
    have hwn : wn = R.length := unhide HWN
    subst hwn
    by_cases hlen : pre.length < R.length
    · have hz : ¬ (R.length : Int) ≤ (pre.length : Int) := by omega
      have hz2 : (pre.length : Int) < (R.length : Int) := by omega
      obtain ⟨k0, x0, hR0⟩ : ∃ k0 x0, R[pre.length]? = some (k0, x0) := ⟨R[pre.length].1, R[pre.length].2, by rw [List.getElem?_eq_getElem hlen]⟩
      obtain ⟨g1, rfl, c0, c1⟩ := unhide HC _ _ _ hR0
      have HR0 := hide hR0
      clear hR0
      by_cases e1 : k0 = xi
      · by_cases e2 : x0 = xx
        · subst e1 e2
          have HA : Hid (After v.heap.size B w0 W t most (N + 196608 * pre.length) (Gp G b11 (.cells #[.int .i64 ((pre.length : Int) + 1)] 3 (0, 0))) (W.setCell ⟨b11, 0, none⟩ (.int .i64 ((pre.length : Int) + 1)))) := by
            have h1 := (unhide HI).write (i := 0) (Gp_self _ _ _) (unhide HBR) (.int .i64 ((pre.length : Int) + 1))
            rw [Gp_gp] at h1
            exact ⟨h1, (KeepsOthers.setCell _ _ _).from _⟩
          have hne5 : ¬ b11 = b5 := by have := unhide HLT _ _ (unhide HG).t5; omega
          have HNp : Hid (N + 196608 * pre.length ≤ 800000000) := by have := (unhide HN).1; show _ ≤ _; omega
          have HLN : Hid ((((pre ++ [(k0, x0)]).length : Nat) : Int) = (pre.length : Int) + 1 ∧ N + 196608 * (pre ++ [(k0, x0)]).length = N + 196608 * pre.length + 65536 + 65536 + 65536 ∧ (pre ++ [(k0, x0)]).length ≤ 9) := by
            refine ⟨by simp, ?_, ?_⟩
            · simp; omega
            · simp; omega
          clear HI HROW HRP HS1
          gi_wp2
          refine ⟨trivial, ((callsIn_wide.2 (runDrop (unhide HG) (unhide HLT) _ (unhide HA) (by have := unhide HNp; omega))).inRound l).mono ?_⟩
          rintro e w1 ⟨r1, rfl, ⟨n1, t1, u1, s1⟩, HA1⟩
          clear HA n0 t0 l0 u0 s0 r0 rf nf c0 c1
          gi_wp2
          refine ⟨trivial, ((callsIn_wide.2 (runPut (unhide HG) (unhide HLT) _ (unhide HA1) (by have := unhide HNp; omega))).inRound l).mono ?_⟩
          rintro e w2 ⟨r2, rfl, ⟨n2, t2, u2, s2⟩, HA2⟩
          clear HA1 n1 t1 u1 s1
          gi_wp2
          refine ⟨trivial, ((callsIn_wide.2 (runSet (unhide HG) (unhide HLT) _ _ (unhide HA2))).inRound l).mono ?_⟩
          rintro e w3 ⟨r3, rfl, ⟨n3, t3, u3, s3⟩, HA3⟩
          clear HA2 n2 t2 u2 s2
          by_cases htt : tt = 0
          · subst htt
            by_cases hst : (pre.length : Int) + 1 = stop
            · gi_wp2
              have h1 := (unhide HA3).1
              rw [← (unhide HLN).1] at h1 hst
              rw [← (unhide HLN).2.1] at h1
              exact ⟨(unhide HA3).2, .inl ⟨rfl, hst, (unhide HLN).2.2, h1⟩⟩
            · have hsd : (((pre.length : Int) + 1) == stop) = false := by simpa using hst
              gi_wp2
              have h1 := (unhide HA3).1
              rw [← (unhide HLN).1, ← (unhide HLN).2.1] at h1
              exact ⟨(unhide HA3).2, kx_after (unhide HG) (unhide HLT) (unhide HKP) (unhide HA3), h1⟩
          · have htd : (tt == 0) = false := by simpa using htt
            gi_wp2
            have h1 := (unhide HA3).1
            rw [← (unhide HLN).1, ← (unhide HLN).2.1] at h1
            exact ⟨(unhide HA3).2, kx_after (unhide HG) (unhide HLT) (unhide HKP) (unhide HA3), h1⟩
        · have e3 : (x0 == xx) = false := by simpa using e2
          have HN2 : Hid (¬ pre ++ [(k0, xx)] <+: R) := fun hp => e2 (by have := snoc_prefix hp; rw [unhide HR0] at this; simpa using this)
          subst e1
          gi_wp2
          exact ⟨(KeepsOthers.setCell _ _ _).from _, .inr (unhide HN2)⟩
      · have e3 : (k0 == xi) = false := by simpa using e1
        have HN2 : Hid (¬ pre ++ [(xi, xx)] <+: R) := fun hp => e1 (by have := snoc_prefix hp; rw [unhide HR0] at this; simp at this; exact this.1)
        gi_wp2
        exact ⟨(KeepsOthers.setCell _ _ _).from _, .inr (unhide HN2)⟩
    · have hz : (R.length : Int) ≤ (pre.length : Int) := by omega
      have HN2 : Hid (¬ pre ++ [(xi, xx)] <+: R) := fun hp => by have := hp.length_le; simp at this; omega
      gi_wp2
      exact ⟨(KeepsOthers.setCell _ _ _).from _, .inr (unhide HN2)⟩
  case next =>
    rintro D pre W hD hIJ hK
    obtain ⟨j, hj, hj9, hst⟩ : ∃ j : Nat, (j = R.length ∨ (tt = 0 ∧ (j : Int) = stop)) ∧ j ≤ 9 ∧ StO v.heap.size B w0 t most (N + 196608 * j) (Gp G b11 (.cells #[.int .i64 (j : Nat)] 3 (0, 0))) W := by
      rcases hIJ with ⟨rfl, h⟩ | ⟨-, h⟩
      · exact ⟨_, .inl rfl, unhide HR9, h⟩
      · exact ⟨_, .inr h.1, h.2.1, h.2.2⟩
    obtain ⟨⟨⟨n0, nf⟩, t0, l0, u0, s0, r0, rf⟩, kp⟩ := cells_o (unhide HG) (unhide HLT) hst
    have HEND : Hid (b11 ≤ D ∧ W.heap[D]? = some (.deferred (some [])) ∧ StO W.heap.size B w0 t most (N + 2000000) (Gp G D (.deferred (some []))) W) := by
      refine ⟨by omega, hK, (hst.anew (Below.refl _ _) (fun b o hb => ?_)).le (by omega)⟩
      by_cases e : b = D
      · subst e
        rw [Gp_self] at hb
        cases hb
        exact ⟨hK, .inr (.inr ⟨hD, rfl⟩)⟩
      · rw [Gp_other _ _ e] at hb
        exact ⟨kp b o hb, .inl (by rw [Gp_other _ _ (by have := unhide HLT b o hb; omega)]; exact hb)⟩
    have hwn : wn = R.length := unhide HWN
    have HRL := hide hwn
    have hjz : (j : Int) ≤ 9 := by omega
    have hwz : (wn : Int) ≤ 9 := by have := unhide HR9; omega
    clear hst kp hseq HROW HRP HS1 hIJ hwn hK
    by_cases e : j = wn
    · subst e
      go_wp2_with fail
      exact unhide HQ _ _ _ _ _ _ _ _ _ _ _ _ _ _ _ _ _ _ _ _ _ _ _ _ _ _ _ _ _ _ _ _ _ _ _ _ _ _ _ _ _ _ _ _ _ _ _ _ _ _ _ _ _ _ _ _ _ _ _ D W (unhide HEND)
    · have e1 : ((j : Int) == (wn : Int)) = false := by simp; omega
      obtain ⟨rfl, hs⟩ : tt = 0 ∧ (j : Int) = stop := hj.resolve_left (fun h => e (h.trans (unhide HRL).symm))
      subst hs
      go_wp2_with fail
      exact unhide HQ _ _ _ _ _ _ _ _ _ _ _ _ _ _ _ _ _ _ _ _ _ _ _ _ _ _ _ _ _ _ _ _ _ _ _ _ _ _ _ _ _ _ _ _ _ _ _ _ _ _ _ _ _ _ _ _ _ _ _ D W (unhide HEND)
end Go.Proofs.Ytkdlhnfagghppaa
