/-
  What stays while a heap changes: facts that the claimed proofs use.
-/
import Derived.Test.YtckcgaliphpgeaaGreatDoorHeVals
namespace Go.Proofs.YtckcgaliphpgeaaGreatDoor.He
set_option maxRecDepth 100000
open Go.RowKit
open Ta (sizeOf' classB)
open Bi (Drawn ret_i ret_b up_alloc up_drew up_trans tst sets)
open Ri (of of_nat up up_at up_far lenOf)
open Gr (kind kind_of kne)

section
variable {w w' w0 : World} {x : Nat} {P P' : Pl} {σ σ' : St} {bs : List (BitVec 8)} {U U' : Nat → Option Sb}
theorem Wd.step (h : Wd w0 w x P σ bs) (hl : Left P σ bs σ' w w') (hO : σ'.O = σ.O) (hi : HI σ') : ∃ P', P'.h = P.h ∧ P'.q = P.q ∧ Wd w0 w' x P' σ' bs ∧ Fh P σ.U w w' ∧ He.Nw w.heap.size P σ.U P' σ'.U := by
  obtain ⟨P2, a1, a2, a3, a4, a5, a6⟩ := hl
  obtain ⟨v, b1, b2⟩ := h.blk
  refine ⟨P2, a1, a2, ⟨⟨v, ?_, ?_⟩, a4, hi, fun k hk => ?_, h.xnew, h.bel.trans (a5.below h.new h.bel.size)⟩, a5, a6⟩
  · rw [a1, a2]
    exact b1.of (a5.block x b1.lt (fun ho => (h.hm.own_kind ho).1 (kind_of b1)))
  · have e : (σ'.O.map fun p => Value.pointer (some ⟨(P2.A p).s, 0, none⟩)) = σ.O.map fun p => Value.pointer (some ⟨(P.A p).s, 0, none⟩) := by
      rw [hO]
      exact List.map_congr_left (fun p hp => by rw [a3 p hp])
    rw [e, hO]
    exact Os.own_of b2 (fun j hj => a5.block j (ptr_row b2 hj).2.2 (fun ho => (h.hm.own_kind ho).2.1 (ptr_row b2 hj).1))
  · rcases a6 k hk with e | e
    · exact h.new k e
    · have := h.bel.size; omega
/-- A copy of a slab, of which nothing is the heap's. -/
structure SlK (P : Pl) (U : Nat → Option Sb) (W : World) (s q g : Nat) (b c : Int) (l : List Bool) : Prop where
  sl : Os.Sl W s q g b c l
  ns : ¬ Own P U s
  nq : ¬ Own P U q
  ng : ¬ Own P U g
theorem nown {B k : Nat} (hn : He.Nw B P U P' U') (h : ¬ Own P U k) (hk : k < B) : ¬ Own P' U' k := fun ho => by
  rcases hn k ho with e | e
  · exact h e
  · omega
theorem SlK.left {s q g : Nat} {b c : Int} {l : List Bool} (h : SlK P U w s q g b c l) (hf : Fh P U w w') (hn : He.Nw w.heap.size P U P' U') : SlK P' U' w' s q g b c l := by
  obtain ⟨l1, l2, l3⟩ := h.sl.lt
  exact ⟨h.sl.of (hf.block s l1 h.ns) (hf.block q l2 h.nq) (hf.block g l3 h.ng), nown hn h.ns l1, nown hn h.nq l2, nown hn h.ng l3⟩
theorem SlK.below {s q g : Nat} {b c : Int} {l : List Bool} (h : SlK P U w s q g b c l) (hb : Below w.heap.size w w') : SlK P U w' s q g b c l := ⟨h.sl.below hb, h.ns, h.nq, h.ng⟩
/-- A copy that was just made is none of the heap's: its bits' struct is of a kind of its own. -/
theorem SlK.made {s q g : Nat} {b c : Int} {l : List Bool} (h : Hm w P σ bs) (hb : Below w.heap.size w w') (hs : Os.Sl w' s q g b c l) (h1 : w.heap.size ≤ s) (h2 : w.heap.size ≤ g) : SlK P σ.U w' s q g b c l := by
  refine ⟨hs, fun ho => ?_, fun ho => ?_, fun ho => ?_⟩
  · have := h.own_lt ho; omega
  · have hw := h.below hb
    have k := hs.kinds.2.1
    change Gr.kind w' q = 149 at k
    rcases ho with e | e | e | ⟨p, s', hp, e⟩
    · rcases (hw.gm.gx.own e).2 with e | e | e | e | e | e <;> rw [e] at k <;> cases k
    · rw [e, hw.kinds.2.2.1] at k; cases k
    · rcases ring_kind hw.ring e.1 e.2 with e | e <;> rw [e] at k <;> cases k
    · rcases e with e | e
      · rw [e, (hw.slk hp).1] at k; cases k
      · rw [e, (hw.slk hp).2.2] at k; cases k
  · have := h.own_lt ho; omega
theorem Hm.own59 (h : Hm w P σ bs) {k : Nat} (hk : kind w k = 59) : ¬ Own P σ.U k := fun ho => by
  rcases ho with e | e | e | ⟨p, s, hp, e⟩
  · rcases (h.gm.gx.own e).2 with e | e | e | e | e | e <;> rw [e] at hk <;> cases hk
  · rw [e, h.kinds.2.2.1] at hk; cases hk
  · rcases ring_kind h.ring e.1 e.2 with e | e <;> rw [e] at hk <;> cases hk
  · rcases e with e | e
    · rw [e, (h.slk hp).1] at hk; cases hk
    · rw [e, (h.slk hp).2.2] at hk; cases hk
/-- A list of the heap's, as a list of one's own. -/
theorem list_mine (h : Hm w P σ bs) (c l : Int) : Calls Tryz.prog 11 #[.pointer (some ⟨P.h, 0, none⟩), .int .i64 c, .int .i64 l] w fun e w' => ∃ v, e = .returned v ∧ Mine P σ.U w' w.heap.size v (nats (of σ.R (ringI c l))) ∧ Below w.heap.size w w' := by
  refine (list_own P.h P.r σ.R c l w h.cells.2.2 h.ring h.tb.cls).mono ?_
  rintro e w' ⟨v, rfl, hr, hb⟩
  refine ⟨v, rfl, ⟨?_, fun g hg ho => ?_⟩, hb⟩
  · have : (nats (of σ.R (ringI c l))).length = (of σ.R (ringI c l)).length := by unfold nats; rw [List.length_map]
    rw [this]
    exact Os.own_down hr (by omega)
  · have := h.own_lt ho
    have := Ri.own_base hr g hg
    omega
set_option maxHeartbeats 4000000 in
theorem sameints_any (X : List Int) (A1 A2 : Option Addr) (c1 c2 n1 n2 : Nat) (w : World) (h1 : Os.At w.heap.size w A1 (Os.ints X)) (h2 : Os.At w.heap.size w A2 (Os.ints X)) (hl : X.length ≤ 1048576) (e1 : X.length = n1) (e2 : X.length = n2) :
    Calls Tryz.prog 26 #[.slice A1 n1 c1, .slice A2 n2 c2] w fun e w' => e = .returned (.bool true) ∧ Below w.heap.size w w' := by
  obtain rfl : n1 = n2 := e1.symm.trans e2
  have H1 := Lib.hid h1
  have H2 := Lib.hid h2
  have HN := Lib.hid e1
  rw [e1] at hl
  have hd : ((n1 : Int) != (n1 : Int)) = false := by simp
  clear h1 h2 e1 e2
  go_enter Tryz.func26, Tryz.ntmps26
  go_wp2_with fail
  go_loopw [5] (fun i wr => ∃ k : Nat, k ≤ n1 ∧ i = .int .i64 k ∧ Below w.heap.size w wr) (fun i _ => n1 - (intOf i).toNat)
  case atStart => exact ⟨0, by omega, rfl, Below.refl _ _⟩
  case round =>
    obtain ⟨k, hk, rfl, hb⟩ := hrel
    have HB := Lib.hid hb
    by_cases hlt : k < n1
    · have hkl : k < X.length := by rw [HN.out]; exact hlt
      obtain ⟨b, o, rfl, _, q0⟩ := (H1.out.below hb).int hkl
      obtain ⟨b', o', rfl, _, r0⟩ := (H2.out.below hb).int hkl
      have j1 : (0 : Int) ≤ (k : Int) := by omega
      have j2 : (k : Int) < (n1 : Int) := by omega
      obtain ⟨x, hx⟩ : ∃ x, X[k] = x := ⟨_, rfl⟩
      rw [hx] at q0 r0
      have hxx : (x != x) = false := by simp
      clear hx hkl hb
      go_wp2_with fail
      go_quiet (fail)
      go_wp2_with fail
      go_roundw
      case rel => exact ⟨k + 1, by omega, by go_num, up_drew HB.out _⟩
      case measure => simp [intOf]; omega
    · obtain rfl : k = n1 := by omega
      clear hb
      go_wp2_with fail
      go_ret
      exact ⟨rfl, HB.out⟩
end
end Go.Proofs.YtckcgaliphpgeaaGreatDoor.He
