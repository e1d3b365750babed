/-
  The walk of the statement that no page is in two spans.
-/
import Derived.Test.YtbfcejmifmeigaaHeld
import Derived.Test.YtbfcejmifmeigaaBoth
import Derived.StillTailTactics
import Derived.Deep.DeepCutAuto
namespace Go.Proofs.Ytbfcejmifmeigaa
open Go.RowKit Go.Maps

/-! ### What lies beside the runs -/
def Kp (S : List Nat) (w : World) : Nat → Obj → Prop := fun k o => k ∈ S ∧ w.heap[k]? = some o
section
variable {w0 w w' : World} {q : Nat} {S : List Nat} {L L' : List Rn}
theorem kp_same (h : Live w0 q (Kp S w) L' w') {k : Nat} (hk : k ∈ S) (hl : k < w.heap.size) : w'.heap[k]? = w.heap[k]? := by
  have e : w.heap[k]? = some w.heap[k] := Array.getElem?_eq_getElem hl
  rw [h.prot ⟨hk, e⟩, e]
theorem kp_now (h : Live w0 q (Kp S w) L' w') (hS : ∀ k ∈ S, k < w.heap.size) : Live w0 q (Kp S w') L' w' := by
  have h' := h
  obtain ⟨g, s, a1, a2, a3, a4⟩ := h
  refine ⟨g, s, a1, a2, a3, ?_⟩
  rintro k o ⟨hk, ho⟩
  have e := kp_same h' hk (hS k hk)
  obtain ⟨b1, b2, _⟩ := a4 k o ⟨hk, e ▸ ho⟩
  exact ⟨b1, b2, ho⟩
theorem kp_below (h : Live w0 q (Kp S w) L w) (hS : ∀ k ∈ S, k < w.heap.size) (hb : Below w.heap.size w w') : Live w0 q (Kp S w') L w' := kp_now (h.below hb) hS
theorem kp_add (h : Live w0 q (Kp S w) L w) (hS : ∀ k ∈ S, k < w.heap.size) (ob : Obj) : Live w0 q (Kp (w.heap.size :: S) (w.alloc ob)) L (w.alloc ob) := by
  have h2 := kp_below h hS (up_alloc (Below.refl _ w) ob)
  obtain ⟨g, s, a1, a2, a3, a4⟩ := h
  have hlt := s.lt
  refine ⟨g, s.below (up_alloc (Below.refl _ w) ob), a1, a2, h2.bel, ?_⟩
  rintro k o ⟨hk, ho⟩
  rcases List.mem_cons.1 hk with rfl | hk
  · exact ⟨by omega, by omega, ho⟩
  · have e : (w.alloc ob).heap[k]? = w.heap[k]? := heap_alloc_old w ob (hS k hk)
    obtain ⟨b1, b2, _⟩ := a4 k o ⟨hk, e ▸ ho⟩
    exact ⟨b1, b2, ho⟩
theorem kp_less {S' : List Nat} (h : Live w0 q (Kp S w) L w') (hs : ∀ k ∈ S', k ∈ S) : Live w0 q (Kp S' w) L w' := h.weaken fun k _ hk => ⟨hs k hk.1, hk.2⟩
theorem kp_turn {b : Nat} (h : Live w0 q (Kp S w) L w) (hS : ∀ k ∈ S, k < w.heap.size) (hb : b ∈ S) (h0 : w0.heap.size ≤ b) (hg : w.grownBy w' (some b)) : Live w0 q (Kp S w') L w' := by
  obtain ⟨g, s, a1, a2, a3, a4⟩ := h
  have hlt := s.lt
  have n0 := a4 b _ ⟨hb, Array.getElem?_eq_getElem (hS b hb)⟩
  refine ⟨g, s.of (hg.block q hlt.1 (by simp; exact fun e => n0.1 e.symm)) (hg.block g hlt.2 (by simp; exact fun e => n0.2.1 e.symm)), a1, a2, grown_new a3 hg h0, ?_⟩
  rintro k o ⟨hk, ho⟩
  obtain ⟨b1, b2, _⟩ := a4 k _ ⟨hk, Array.getElem?_eq_getElem (hS k hk)⟩
  exact ⟨b1, b2, ho⟩
end
/-- The runs, and the map of what is held. -/
def Asd (w0 : World) (q b n : Nat) (L : List Rn) (w : World) : Prop := Live w0 q (Kp [b] w) L w ∧ w0.heap.size ≤ b ∧ ∃ D, Hm w b n D L
theorem Hm.lt {w : World} {b n : Nat} {D : DU} {L : List Rn} (h : Hm w b n D L) : b < w.heap.size := h.own.lt

set_option maxRecDepth 100000 in
set_option maxHeartbeats 2000000 in
theorem apart_great (N : Int) (A : Option Addr) (M c : Nat) (w : World) (h : 200 < N ∨ 100 < M) :
    Calls Try.prog 4 #[.int .i64 N, .slice A M c] w fun e w' => e = .returned (.bool true) ∧ Below w.heap.size w w' := by
  have hd : decide (200 < N ∨ 100 < M) = true := by simpa using h
  have HG : Hid (∀ W, Calls Try.prog 7 #[.int .i64 N, .slice A M c] W fun e w' => e = .returned (.bool true) ∧ W = w') := fun W => by
    have := great_any N A M c W; rwa [hd] at this
  clear hd h
  go_enter Try.func4, Try.ntmps4
  go_wp2_with fail
  refine (alive_any _).mono ?_
  rintro e w1 ⟨rfl, B1⟩
  have HB := Lib.hid B1
  clear B1
  go_wp2_with (go_at_call 7; refine (HG.out _).mono ?_; rintro e w' ⟨rfl, rfl⟩)
  go_ret
  exact ⟨rfl, HB.out⟩
set_option maxRecDepth 100000 in
set_option maxHeartbeats 2000000 in
theorem apart_no (N : Int) (A : Option Addr) (M c : Nat) (w : World) (h : ¬ (200 < N ∨ 100 < M)) (h2 : N < 0) :
    Calls Try.prog 4 #[.int .i64 N, .slice A M c] w fun e w' => e = .returned (.bool true) ∧ Below w.heap.size w w' := by
  have hd : decide (200 < N ∨ 100 < M) = false := by simpa using h
  have HG : Hid (∀ W, Calls Try.prog 7 #[.int .i64 N, .slice A M c] W fun e w' => e = .returned (.bool false) ∧ W = w') := fun W => by
    have := great_any N A M c W; rwa [hd] at this
  have HNew := Lib.hid (fun W => new_no N W (by omega))
  clear hd h h2
  go_enter Try.func4, Try.ntmps4
  go_wp2_with fail
  refine (alive_any _).mono ?_
  rintro e w1 ⟨rfl, B1⟩
  have HB := Lib.hid B1
  clear B1
  go_wp2_with (first | (go_at_call 7; refine (HG.out _).mono ?_; rintro e w' ⟨rfl, rfl⟩) | (go_at_call 8; refine (HNew.out _).mono ?_; rintro e w' ⟨rfl, rfl⟩))
  go_ret
  exact ⟨rfl, HB.out⟩
end Go.Proofs.Ytbfcejmifmeigaa
