/- HeapWrong's Pop. -/
import Derived.Test.YtfhpabcjbjmcmaaWrongLo
namespace Go.Proofs.Ytfhpabcjbjmcmaa
open Go.RowKit Go.Maps

set_option maxHeartbeats 1000000 in
set_option maxRecDepth 100000 in
theorem hasIn {a : Option Addr} {L cc : Nat} {B : Nat} {l : List Int} (x : Int) (w : World) (h : w.ownsRow B 3 1 (.slice a L cc) l.length (nums l)) (hx : x ∈ l) (hn : l.length ≤ 1000) :
    Calls Try.prog 26 #[.slice a L cc, .int .i64 x] w fun e w' => e = .returned (.bool true) ∧ w' = w := by
  obtain ⟨t, ht, hxt⟩ := List.mem_iff_getElem.1 hx
  have h0 : 0 < l.length := by omega
  have hL : L = l.length := by
    rcases h.2 with ⟨e, e2⟩ | ⟨g, cap, cur, e, -⟩
    · omega
    · cases e; rfl
  obtain ⟨g, rfl, hcl⟩ : ∃ g, a = some ⟨g, 0, none⟩ ∧ ∀ j, j < l.length → w.cell? ⟨g, j, none⟩ = some (.int .i64 (l.getD j 0)) := by
    have hc := @World.ownsRow.cells _ _ _ _ _ _ _ h
    rcases h.2 with ⟨e, e2⟩ | ⟨g, cap, cur, e, -⟩
    · omega
    · cases e
      refine ⟨g, rfl, fun j hj => ?_⟩
      have := hc rfl j (.int .i64 (l.getD j 0)) (by simp [nums, hj])
      have add : (⟨g, 0, none⟩ : Addr).add j = ⟨g, j, none⟩ := by unfold Addr.add; split <;> simp_all
      rwa [add] at this
  have HCL := hide hcl
  have HXT : Hid (∀ j, l.getD j 0 = x ∨ j ≠ t) := fun j => by
    by_cases e : j = t
    · subst e; exact .inl (by simp [ht, hxt])
    · exact .inr e
  have HT : Hid (t < L) := by rw [hL]; exact ht
  have hLz : (L : Int) ≤ 1000 := by omega
  have HLL := hide hL
  clear h hx hxt ht hcl h0 hn hL
  go_enter Try.func26, Try.ntmps26
  go_wp2_with fail
  go_loop [9] (fun s9 => ∃ j : Nat, j ≤ t ∧ s9 = .int .i64 j) (fun s9 => L - (intOf s9).toNat)
  case atStart => exact ⟨0, Nat.zero_le _, rfl⟩
  case round =>
    obtain ⟨j, hj, rfl⟩ := hrel
    have hjL : j < L := by have := unhide HT; omega
    have hjz : (j : Int) < (L : Int) := by omega
    have c0 := unhide HCL j (by have := unhide HLL; omega)
    have hor := unhide HXT j
    generalize l.getD j 0 = y at *
    by_cases e : y = x
    · subst e
      clear hor
      go_wp2_with fail
      go_ret
      exact ⟨rfl, rfl⟩
    · have hne : j ≠ t := hor.resolve_left e
      have e2 : (x == y) = false := by simpa using fun h : x = y => e h.symm
      have e3 : ¬ (x = y) := fun h => e h.symm
      have HNE := hide hne
      clear hor hne
      go_wp2_with fail
      go_round
      case rel => exact ⟨j + 1, by have := unhide HNE; omega, by go_num⟩
      case measure => simp [intOf]; omega

variable {B : Nat} {w0 W : World} {lv : Value} {Inv : Nat → World → Prop} {A D : Nat → Prop} {p bi bg ob : Nat} {es : List EntI} {n c : Nat} {f : Nat → Bool} {gv : Nat → Value} {gl : Nat → List Int} {kd kk r : Int} {k i : Nat}

set_option maxHeartbeats 8000000 in
set_option maxRecDepth 100000 in
theorem hPop [Inhabited EntI] (a0 a1 a2 a3 a4 a5 a9 a12 a13 a14 a15 a16 a17 a18 a19 a20 a21 a22 a23 a24 a25 a26 a27 a28 a29 a30 a31 a32 a33 a34 a35 a36 a37 a38 a39 a40 a41 a42 a43 a44 a45 a46 a47 a48 a49 a50 a51 a52 a53 a54 a55 a56 a57 a58 a59 a60 a61 a62 a63 a64 a65 a66 a67 a68 a69 a70 a71 a72 a73 a74 a75 a76 a77 a78 a79 a80 a81 a82 a83 a84 a85 a86 a87 a88 a89 a90 a91 a92 a93 a94 a95 a96 a97 a98 a99 a100 a101 a102 a103 a104 a105 a106 a107 a108 a109 a110 a111 a112 a113 a114 a115 a116 a117 a118 a119 a120 a121 a122 a123 a124 a125 a126 a127 a128 a129 a130 a131 a132 a133 a134 a135 a136 a137 a138 a139 a140 a141 a142 a143 : Value) (Q : Exit → Act → World → Prop) (HS : Hid (SwH B w0 lv Inv A D p bi bg ob es n c f gv gl W kd kk r k i)) (HQ : Hid (∀ (b12 b13 b14 b43 b44 b45 b46 b47 b48 b49 b50 b51 b52 b53 b54 b55 b56 b57 b58 b59 b60 b61 b62 b63 b64 b65 b66 b67 b68 b69 b70 b71 b72 b73 b74 b75 b76 b77 b78 b79 b80 b81 b82 b83 b84 b85 b86 b87 b88 b89 b90 b91 b92 b93 b94 b95 b96 b97 b98 b99 b100 b101 b102 b103 b104 b105 b106 b107 b108 b109 b110 b111 b112 b113 b114 b115 b116 b117 b118 b119 b120 b121 b122 b123 b124 b125 b126 b127 b128 b129 b130 b131 : Value) (wq : World), AfterH B w0 lv Inv D p bi bg ob i wq → Q .normal ⟨#[a0, a1, a2, a3, a4, a5, .pointer (some ⟨p, 0, none⟩), .pointer (some ⟨bi, 0, none⟩), .pointer (some ⟨bg, 0, none⟩), a9, .pointer (some ⟨ob, 0, none⟩), .int .i64 (k : Int), b12, b13, b14, a15, a16, a17, a18, a19, a20, a21, a22, a23, a24, a25, a26, a27, a28, a29, a30, a31, a32, a33, a34, a35, a36, a37, a38, a39, a40, a41, a42, b43, b44, b45, b46, b47, b48, b49, b50, b51, b52, b53, b54, b55, b56, b57, b58, b59, b60, b61, b62, b63, b64, b65, b66, b67, b68, b69, b70, b71, b72, b73, b74, b75, b76, b77, b78, b79, b80, b81, b82, b83, b84, b85, b86, b87, b88, b89, b90, b91, b92, b93, b94, b95, b96, b97, b98, b99, b100, b101, b102, b103, b104, b105, b106, b107, b108, b109, b110, b111, b112, b113, b114, b115, b116, b117, b118, b119, b120, b121, b122, b123, b124, b125, b126, b127, b128, b129, b130, b131, a132, a133, a134, a135, a136, a137, a138, a139, a140, a141, a142, a143], []⟩ wq)) (hd : kd = 3) :
    Code.wp Try.prog ((Try.f7.body.bind (atRegion 12)).getD .skip) Q ⟨#[a0, a1, a2, a3, a4, a5, .pointer (some ⟨p, 0, none⟩), .pointer (some ⟨bi, 0, none⟩), .pointer (some ⟨bg, 0, none⟩), a9, .pointer (some ⟨ob, 0, none⟩), .int .i64 (k : Int), a12, a13, a14, a15, a16, a17, a18, a19, a20, a21, a22, a23, a24, a25, a26, a27, a28, a29, a30, a31, a32, a33, a34, a35, a36, a37, a38, a39, a40, a41, a42, a43, a44, a45, a46, a47, a48, a49, a50, a51, a52, a53, a54, a55, a56, a57, a58, a59, a60, a61, a62, a63, a64, a65, a66, a67, a68, a69, a70, a71, a72, a73, a74, a75, a76, a77, a78, a79, a80, a81, a82, a83, a84, a85, a86, a87, a88, a89, a90, a91, a92, a93, a94, a95, a96, a97, a98, a99, a100, a101, a102, a103, a104, a105, a106, a107, a108, a109, a110, a111, a112, a113, a114, a115, a116, a117, a118, a119, a120, a121, a122, a123, a124, a125, a126, a127, a128, a129, a130, a131, a132, a133, a134, a135, a136, a137, a138, a139, a140, a141, a142, a143], []⟩ W := by
  conv => arg 2; whnf
  subst hd
  have q0 := (unhide HS).b0
  by_cases hes : es.length = 0
  · have CP : Hid (Calls Try.prog 15 #[.pointer (some ⟨p, 0, none⟩)] W fun e w' => e = .returned (.tuple #[.int .i64 0, .int .i64 0, .bool false]) ∧ w' = W) := by
      obtain ⟨m, v, hw, -⟩ := (unhide HS).mem.heap
      have h1 := hw.at_
      rw [List.length_eq_zero_iff.1 hes] at h1
      exact popNoneI W h1
    go_upto_region 28 with fail
    go_wp2_with fail
    refine (unhide CP).mono ?_
    rintro e w' ⟨rfl, rfl⟩
    go_wp2_with fail
    exact unhide HQ _ _ _ _ _ _ _ _ _ _ _ _ _ _ _ _ _ _ _ _ _ _ _ _ _ _ _ _ _ _ _ _ _ _ _ _ _ _ _ _ _ _ _ _ _ _ _ _ _ _ _ _ _ _ _ _ _ _ _ _ _ _ _ _ _ _ _ _ _ _ _ _ _ _ _ _ _ _ _ _ _ _ _ _ _ _ _ _ _ _ _ _ _ (unhide HS).same
  · obtain ⟨k2, r2, hk2, hkey, hrank, hin⟩ : ∃ (k2 : Nat) (r2 : Int), k2 < 16 ∧ (at_ es 0).key = (k2 : Int) ∧ (at_ es 0).rank = r2 ∧ r2 ∈ gl k2 := by
      obtain ⟨k2, a, b, c⟩ := (unhide HS).fit.keys _ (at_mem es 0 (by omega))
      exact ⟨k2, _, a, b, rfl, c⟩
    have hfk : f k2 = true := ((unhide HS).fit.marks k2 hk2).2 ⟨_, at_mem es 0 (by omega), hkey⟩
    have CP : Hid (Calls Try.prog 15 #[.pointer (some ⟨p, 0, none⟩)] W fun e w' => e = .returned (.tuple #[.int .i64 (k2 : Int), .int .i64 r2, .bool true]) ∧ Hid (∃ es' c', es'.Perm (without (k2 : Int) es) ∧ c' ≤ c + 50 ∧ LMem B w0 lv Inv D p bi bg ob es' n c' f gv gl w')) := by
      have h := unhide HS
      obtain ⟨m, v, hw, hfo⟩ := h.mem.heap
      have hlen := h.len
      have h1 := popSomeW W hw h.env (by omega) (by omega) (by have := h.hc; have := h.hi; omega)
      rw [hkey, hrank] at h1
      refine h1.mono ?_
      rintro e w' ⟨he, hch⟩
      obtain ⟨es', c', g1, g2, g3, g4⟩ := h.mem.called h.env hw hfo h.hA (unhide hch)
      exact ⟨he, es', c', g1, by omega, g3⟩
    have hkz : (k2 : Int) < 16 := by omega
    have hkz2 : ¬ (15 : Int) < (k2 : Int) := by omega
    have hkz3 : (k2 : Int) ≤ 15 := by omega
    have HIN := hide hin
    have HFK := hide hfk
    have HK2 := hide hk2
    clear hes hkey hrank hin
    go_upto_region 28 with fail
    go_wp2_with fail
    refine (unhide CP).mono ?_
    rintro e w' ⟨rfl, hT⟩
    obtain ⟨es', c', g1, g2, g3⟩ := unhide hT
    have m0 := g3.ins.cell hk2
    (try dsimp only at m0)
    rw [hfk] at m0
    have mf := g3.ins.frozen
    have gb := g3.gave.cell hk2
    obtain ⟨ao, lo, co, hgv⟩ : ∃ (ao : Option Addr) (lo co : Nat), gv k2 = .slice ao lo co := by
      rcases (g3.rows k2 hk2).2 with ⟨e, -⟩ | ⟨g, cap, cur, e, -⟩
      · exact ⟨_, _, _, e⟩
      · exact ⟨_, _, _, e⟩
    have hrow := g3.rows k2 hk2
    rw [hgv] at gb hrow
    have CH := hide (hasIn r2 w' hrow (unhide HIN) (by have := (unhide HS).hl k2 hk2; have := (unhide HS).hi; omega))
    have HX : Hid (AfterH B w0 lv Inv D p bi bg ob i (w'.setCell ⟨bi, k2, none⟩ (.bool false))) := ⟨es', n, c', _, gv, gl, g3.mark (unhide HS).env hk2 false, fit_perm (fit_without (unhide HS).fit) g1, by have := (unhide HS).hn; omega, by have := (unhide HS).hc; omega, fun j hj => by have := (unhide HS).hl j hj; omega⟩
    clear hgv hrow g1 g2 g3 hT hfk CP
    go_wp2_with fail
    refine (unhide CH).mono ?_
    rintro e w2 ⟨rfl, rfl⟩
    go_wp2_with fail
    exact unhide HQ _ _ _ _ _ _ _ _ _ _ _ _ _ _ _ _ _ _ _ _ _ _ _ _ _ _ _ _ _ _ _ _ _ _ _ _ _ _ _ _ _ _ _ _ _ _ _ _ _ _ _ _ _ _ _ _ _ _ _ _ _ _ _ _ _ _ _ _ _ _ _ _ _ _ _ _ _ _ _ _ _ _ _ _ _ _ _ _ _ _ _ _ _ (unhide HX)
end Go.Proofs.Ytfhpabcjbjmcmaa
