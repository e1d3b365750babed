/-
  A slab that is newer than a world; lists of numbers held against each other: laws that the claimed proofs use.
-/
import Derived.Test.YtiemgeflkmbfoaaDoorOsGive
namespace Go.Proofs.YtiemgeflkmbfoaaDoor.Os
set_option maxRecDepth 100000
open Go.RowKit
open Ta (sz szs classB classB_iff classB_not sizeOf' slotsOf)
open Bi (sets bt on first setL setB tst hasB u Blk Drawn grown_refl grown_trans grown_below up_alloc up_drew up_trans i64_in ret_i ret_b)

set_option maxHeartbeats 4000000 in
theorem sameints_any (X : List Int) (A1 A2 : Option Addr) (c1 c2 n1 n2 : Nat) (w : World) (h1 : At w.heap.size w A1 (ints X)) (h2 : At w.heap.size w A2 (ints X)) (hl : X.length ≤ 1048576) (e1 : X.length = n1) (e2 : X.length = n2) :
    Calls Tryd.prog 17 #[.slice A1 n1 c1, .slice A2 n2 c2] w fun e w' => e = .returned (.bool true) ∧ Below w.heap.size w w' := by
  obtain rfl : n1 = n2 := e1.symm.trans e2
  have H1 := Lib.hid h1
  have H2 := Lib.hid h2
  have HN := Lib.hid e1
  rw [e1] at hl
  have hd : ((n1 : Int) != (n1 : Int)) = false := by simp
  clear h1 h2 e1 e2
  go_enter Tryd.func17, Tryd.ntmps17
  go_wp2_with fail
  go_loopw [5] (fun i wr => ∃ k : Nat, k ≤ n1 ∧ i = .int .i64 k ∧ Below w.heap.size w wr) (fun i _ => n1 - (intOf i).toNat)
  case atStart => exact ⟨0, by omega, rfl, Below.refl _ _⟩
  case round =>
    obtain ⟨k, hk, rfl, hb⟩ := hrel
    have HB := Lib.hid hb
    by_cases hlt : k < n1
    · have hkl : k < X.length := by rw [HN.out]; exact hlt
      obtain ⟨b, o, rfl, _, q0⟩ := (H1.out.below hb).int hkl
      obtain ⟨b', o', rfl, _, r0⟩ := (H2.out.below hb).int hkl
      have j1 : (0 : Int) ≤ (k : Int) := by omega
      have j2 : (k : Int) < (n1 : Int) := by omega
      obtain ⟨x, hx⟩ : ∃ x, X[k] = x := ⟨_, rfl⟩
      rw [hx] at q0 r0
      have hxx : (x != x) = false := by simp
      clear hx hkl hb
      go_wp2_with fail
      go_quiet (fail)
      go_wp2_with fail
      go_roundw
      case rel => exact ⟨k + 1, by omega, by go_num, up_drew HB.out _⟩
      case measure => simp [intOf]; omega
    · obtain rfl : k = n1 := by omega
      clear hb
      go_wp2_with fail
      go_ret
      exact ⟨rfl, HB.out⟩
theorem keyw_eql (w : World) (x y : BitVec 64) : (binOp .eql 58 (keyW x) (keyW y)).run Tryd.prog w = .ok (.bool (x == y)) w := by
  unfold keyW
  rw [run_eql_struct, Bi.key_eq, Bi.u_beq]
  simp
theorem keyw_guard (w : World) (p q : Operand) (x y : BitVec 64) : (eqGuard .eql 58 p q (keyW x) (keyW y)).run Tryd.prog w = .ok () w := by
  have h : Tryd.prog.eqGuardType Tryd.prog.depth 58 = false := by kernel_rfl
  unfold keyW
  simp [eqGuard, h]
/-- A slab of which all blocks are newer than a world. -/
structure Ev (w0 w : World) (s q g : Nat) (b c : Int) (l : List Bool) : Prop where
  sl : Sl w s q g b c l
  hs : w0.heap.size ≤ s
  hg : w0.heap.size ≤ g
  bel : Below w0.heap.size w0 w
  tb : Tb w
section
variable {w0 w w' : World} {s q g : Nat} {b c : Int} {l l' : List Bool}
theorem Ev.below (h : Ev w0 w s q g b c l) (hb : Below w.heap.size w w') : Ev w0 w' s q g b c l := ⟨h.sl.below hb, h.hs, h.hg, up_trans h.bel hb, h.tb.below hb⟩
theorem Ev.step (h : Ev w0 w s q g b c l) (hb : Bec s g b c l' w w') : ∃ q' g', Ev w0 w' s q' g' b c l' := by
  have ht := hb.tb h.sl h.tb
  obtain ⟨q', g', h1, h2, h3⟩ := hb
  refine ⟨q', g', h1, h.hs, ?_, h.bel.trans (h2.below h.hs h.hg h.bel.size), ht⟩
  have := h.hg
  have := h.bel.size
  rcases h3 with e | e
  · rw [e]; exact h.hg
  · omega
theorem Ev.at_ (h : Ev w0 w s q g b c l) (hb : Bec s g b c l' w w') {A : Option Addr} {xs : List Int} (ha : At w0.heap.size w0 A (ints xs)) : At w0.heap.size w' A (ints xs) := by
  obtain ⟨_, _, _, h2, _⟩ := hb
  exact ha.below (h.bel.trans (h2.below h.hs h.hg h.bel.size))
/-- A list in a block of numbers stays. -/
theorem At3.stay {A : Option Addr} {xs : List Int} (hk : At w.heap.size w A (ints xs)) (h3 : ∀ g o, A = some ⟨g, o, none⟩ → kind w g = 3) (hf : Fr s g w w') (hs : kind w s = 72) (hg : kind w g = 56) : At w'.heap.size w' A (ints xs) := fun hp => by
  obtain ⟨b, o, e, hb, hc⟩ := hk hp
  have := hf.size
  have hk3 := h3 b o e
  exact ⟨b, o, e, by omega, fun j v hj => (Bi.cell_of_block (hf.block b hb (kne hk3 hs (by decide)) (kne hk3 hg (by decide)))).trans (hc j v hj)⟩
end
end Go.Proofs.YtiemgeflkmbfoaaDoor.Os
