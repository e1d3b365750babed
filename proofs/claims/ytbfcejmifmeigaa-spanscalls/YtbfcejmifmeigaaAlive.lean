/-
  Runs of pages beside other memory, and every law's first call: contracts that the claimed proofs use.
-/
import Derived.Test.YtbfcejmifmeigaaTaken
import Derived.Test.YtbfcejmifmeigaaEach
namespace Go.Proofs.Ytbfcejmifmeigaa
open Go.RowKit

/-- These runs, made since the world w0; K: what lies in other blocks meanwhile. -/
def Live (w0 : World) (q : Nat) (K : Nat → Obj → Prop) (L : List Rn) (w : World) : Prop :=
  ∃ g, Sp w q g L ∧ w0.heap.size ≤ q ∧ w0.heap.size ≤ g ∧ Below w0.heap.size w0 w ∧ ∀ k o, K k o → k ≠ q ∧ k ≠ g ∧ w.heap[k]? = some o
theorem Live.bel {w0 w : World} {q : Nat} {K : Nat → Obj → Prop} {L : List Rn} (h : Live w0 q K L w) : Below w0.heap.size w0 w := by obtain ⟨g, _, _, _, h, _⟩ := h; exact h
theorem Live.prot {w0 w : World} {q : Nat} {K : Nat → Obj → Prop} {L : List Rn} (h : Live w0 q K L w) {k : Nat} {o : Obj} (hk : K k o) : w.heap[k]? = some o := by obtain ⟨g, _, _, _, _, h⟩ := h; exact (h k o hk).2.2
theorem Live.below {w0 w w' : World} {q : Nat} {K : Nat → Obj → Prop} {L : List Rn} (h : Live w0 q K L w) (hb : Below w.heap.size w w') : Live w0 q K L w' := by
  obtain ⟨g, s, h1, h2, h3, h4⟩ := h
  refine ⟨g, s.below hb, h1, h2, up_trans h3 hb, fun k o hk => ?_⟩
  obtain ⟨a, b, c⟩ := h4 k o hk
  exact ⟨a, b, (hb.block k (Array.getElem?_eq_some_iff.1 c).1).trans c⟩
theorem Live.became {w0 w w' : World} {q g : Nat} {K : Nat → Obj → Prop} {L' : List Rn} (h1 : w0.heap.size ≤ q) (h2 : w0.heap.size ≤ g) (h3 : Below w0.heap.size w0 w) (h4 : ∀ k o, K k o → k ≠ q ∧ k ≠ g ∧ w.heap[k]? = some o) (hb : Became q g L' w w') : Live w0 q K L' w' := by
  obtain ⟨g', s, f, o⟩ := hb
  refine ⟨g', s, h1, by have := h3.size; omega, h3.trans (f.below h1 h2 h3.size), fun k ob hk => ?_⟩
  obtain ⟨a, b, c⟩ := h4 k ob hk
  have hlt := (Array.getElem?_eq_some_iff.1 c).1
  exact ⟨a, by omega, (f.block k hlt a b).trans c⟩
section
variable {w0 w : World} {q : Nat} {K : Nat → Obj → Prop} {N : Int} {L : List Rn}
theorem live_take (n a : Int) (h : Live w0 q K L w) (hw : WF N L) (hN : N ≤ 4096) :
    Calls Try.prog 19 #[.pointer (some ⟨q, 0, none⟩), .int .i64 n, .int .i64 a] w fun e w' => e = .returned (.tuple #[.int .i64 (tkv L n a), .int .i64 (tke L n a)]) ∧ Live w0 q K (tkL L n a) w' := by
  obtain ⟨g, s, h1, h2, h3, h4⟩ := h
  exact (taken_any n a s hw hN).mono fun e w' ⟨he, hb⟩ => ⟨he, Live.became h1 h2 h3 h4 hb⟩
theorem live_take1 (n : Int) (h : Live w0 q K L w) (hw : WF N L) (hN : N ≤ 4096) :
    Calls Try.prog 20 #[.pointer (some ⟨q, 0, none⟩), .int .i64 n] w fun e w' => e = .returned (.tuple #[.int .i64 (tkv L n 1), .int .i64 (tke L n 1)]) ∧ Live w0 q K (tkL L n 1) w' := by
  obtain ⟨g, s, h1, h2, h3, h4⟩ := h
  exact (take1_any n s hw hN).mono fun e w' ⟨he, hb⟩ => ⟨he, Live.became h1 h2 h3 h4 hb⟩
theorem live_give (x : Int) (h : Live w0 q K L w) (hw : WF N L) (hN : N ≤ 4096) :
    Calls Try.prog 18 #[.pointer (some ⟨q, 0, none⟩), .int .i64 x] w fun e w' => e = .returned (.tuple #[.int .i64 (gvv L x), .int .i64 (gve L x)]) ∧ Live w0 q K (gvL L x) w' := by
  obtain ⟨g, s, h1, h2, h3, h4⟩ := h
  exact (given_any x s hw hN).mono fun e w' ⟨he, hb⟩ => ⟨he, Live.became h1 h2 h3 h4 hb⟩
theorem live_runs (h : Live w0 q K L w) (hw : WF N L) (hN : N ≤ 4096) :
    Calls Try.prog 11 #[.pointer (some ⟨q, 0, none⟩)] w fun e w' => GaveR L w e w' ∧ Live w0 q K L w' := by
  have hl : L.length ≤ 8192 := by have := hw.len; omega
  obtain ⟨g, s, h'⟩ := h
  refine (runs_any s hl).mono fun e w' hg => ⟨hg, ?_⟩
  obtain ⟨_, _, _, _, _, hb⟩ := hg
  exact Live.below ⟨g, s, h'⟩ hb
theorem live_free (h : Live w0 q K L w) (hw : WF N L) (hN : N ≤ 4096) :
    Calls Try.prog 15 #[.pointer (some ⟨q, 0, none⟩)] w fun e w' => e = .returned (.int .i64 (fsum L)) ∧ Live w0 q K L w' := by
  have H := h
  obtain ⟨g, s, h'⟩ := h
  exact (sum_any s hw hN).mono fun e w' ⟨he, hb⟩ => ⟨he, H.below hb⟩
theorem live_largest (h : Live w0 q K L w) (hw : WF N L) (hN : N ≤ 4096) :
    Calls Try.prog 16 #[.pointer (some ⟨q, 0, none⟩)] w fun e w' => e = .returned (.int .i64 (fmax L)) ∧ Live w0 q K L w' := by
  have H := h
  obtain ⟨g, s, h'⟩ := h
  exact (max_any s hw hN).mono fun e w' ⟨he, hb⟩ => ⟨he, H.below hb⟩
theorem live_can (n a : Int) (h : Live w0 q K L w) (hw : WF N L) (hN : N ≤ 4096) :
    Calls Try.prog 17 #[.pointer (some ⟨q, 0, none⟩), .int .i64 n, .int .i64 a] w fun e w' => e = .returned (.bool (askB n a && bst n a L L.length != -1)) ∧ Live w0 q K L w' := by
  have H := h
  obtain ⟨g, s, h'⟩ := h
  exact (can_any n a s hw hN).mono fun e w' ⟨he, hb⟩ => ⟨he, H.below hb⟩
theorem live_find (x : Int) (h : Live w0 q K L w) (hw : WF N L) (hN : N ≤ 4096) {k : Nat} (hk : k < L.length) (h1 : (el L k).p ≤ x) (h2 : x < (el L k).p + (el L k).n) :
    Calls Try.prog 13 #[.pointer (some ⟨q, 0, none⟩), .int .i64 x] w fun e w' => e = .returned (.tuple #[.agg #[.int .i64 (el L k).p, .int .i64 (el L k).n, .bool (el L k).t], .bool true]) ∧ Live w0 q K L w' := by
  have H := h
  obtain ⟨g, s, h'⟩ := h
  exact (find_yes s hw hN hk h1 h2).mono fun e w' ⟨he, hb⟩ => ⟨he, H.below hb⟩
theorem live_new (N : Int) (h0 : 0 ≤ N) (h1 : N ≤ 4096) (hb : Below w0.heap.size w0 w) :
    Calls Try.prog 8 #[.int .i64 N] w fun e w' => ∃ q, e = .returned (.tuple #[.pointer (some ⟨q, 0, none⟩), .int .i64 0]) ∧ Live w0 q (fun _ _ => False) (newL N) w' ∧ w.heap.size ≤ q ∧ Below w.heap.size w w' := by
  refine (new_yes N w h0 h1).mono ?_
  rintro e w' ⟨q, g, he, s, hq, hg, hb'⟩
  have := hb.size
  exact ⟨q, he, ⟨g, s, by omega, by omega, up_trans hb hb', fun _ _ h => h.elim⟩, hq, hb'⟩
end
def nk : Nat → Obj → Prop := fun _ _ => False

/-! ### The first call -/
def A0 : List Rn := [⟨0, 16, false⟩]
def A1 : List Rn := [⟨0, 3, true⟩, ⟨3, 13, false⟩]
def A2 : List Rn := [⟨0, 3, true⟩, ⟨3, 5, true⟩, ⟨8, 8, false⟩]
def A3 : List Rn := [⟨0, 3, false⟩, ⟨3, 5, true⟩, ⟨8, 8, false⟩]
def A4 : List Rn := [⟨0, 2, true⟩, ⟨2, 1, false⟩, ⟨3, 5, true⟩, ⟨8, 8, false⟩]
def A5 : List Rn := [⟨0, 2, true⟩, ⟨2, 1, false⟩, ⟨3, 5, true⟩, ⟨8, 2, true⟩, ⟨10, 6, false⟩]
theorem n0 : newL 16 = A0 := by decide +kernel
theorem t1 : tkL A0 3 1 = A1 ∧ tkv A0 3 1 = 0 ∧ tke A0 3 1 = 0 := by decide +kernel
theorem t2 : tkL A1 5 1 = A2 ∧ tkv A1 5 1 = 3 ∧ tke A1 5 1 = 0 := by decide +kernel
theorem t3 : gvL A2 0 = A3 ∧ gvv A2 0 = 3 ∧ gve A2 0 = 0 := by decide +kernel
theorem t4 : tkL A3 2 1 = A4 ∧ tkv A3 2 1 = 0 ∧ tke A3 2 1 = 0 := by decide +kernel
theorem t5 : tkL A4 2 4 = A5 ∧ tkv A4 2 4 = 8 ∧ tke A4 2 4 = 0 := by decide +kernel
theorem t6 : tkL A5 7 1 = A5 ∧ tkv A5 7 1 = -1 ∧ tke A5 7 1 = 13 := by decide +kernel
theorem t7 : fsum A5 = 7 ∧ fmax A5 = 6 := by decide +kernel
theorem t8 : (askB 6 2 && bst 6 2 A5 A5.length != -1) = true ∧ (askB 6 4 && bst 6 4 A5 A5.length != -1) = false := by decide +kernel
theorem wf0 : WF 16 A0 := n0 ▸ new_wf (by omega)
theorem wf1 : WF 16 A1 := t1.1 ▸ tk_wf wf0 3 1
theorem wf2 : WF 16 A2 := t2.1 ▸ tk_wf wf1 5 1
theorem wf3 : WF 16 A3 := t3.1 ▸ gv_wf wf2 0
theorem wf4 : WF 16 A4 := t4.1 ▸ tk_wf wf3 2 1
theorem wf5 : WF 16 A5 := t5.1 ▸ tk_wf wf4 2 4
theorem run_eq (W : World) : (binOp BinOp.eql 40 (.agg #[.int .i64 8, .int .i64 2, .bool true]) (.agg #[.int .i64 8, .int .i64 2, .bool true])).run Try.prog W = .ok (.bool true) W := rfl
set_option maxRecDepth 100000 in
set_option maxHeartbeats 4000000 in
theorem alive_any (w : World) : Calls Try.prog 6 #[] w fun e w' => e = .returned (.bool true) ∧ Below w.heap.size w w' := by
  go_enter Try.func6, Try.ntmps6
  go_wp2_with fail
  refine (live_new (w0 := w) 16 (by omega) (by omega) (Below.refl _ _)).mono ?_
  rintro e w1 ⟨q, rfl, l1, _, _⟩
  rw [n0] at l1
  have L1 := Lib.hid l1
  clear l1
  go_wp2_with fail
  refine (live_take1 3 L1.out wf0 (by omega)).mono ?_
  rw [t1.1, t1.2.1, t1.2.2]
  rintro e w2 ⟨rfl, l2⟩
  have L2 := Lib.hid l2
  clear l2 L1
  go_wp2_with fail
  refine (live_take1 5 L2.out wf1 (by omega)).mono ?_
  rw [t2.1, t2.2.1, t2.2.2]
  rintro e w3 ⟨rfl, l3⟩
  have L3 := Lib.hid l3
  clear l3 L2
  go_wp2_with fail
  refine (live_give 0 L3.out wf2 (by omega)).mono ?_
  rw [t3.1, t3.2.1, t3.2.2]
  rintro e w4 ⟨rfl, l4⟩
  have L4 := Lib.hid l4
  clear l4 L3
  go_wp2_with fail
  refine (live_take1 2 L4.out wf3 (by omega)).mono ?_
  rw [t4.1, t4.2.1, t4.2.2]
  rintro e w5 ⟨rfl, l5⟩
  have L5 := Lib.hid l5
  clear l5 L4
  go_wp2_with fail
  refine (live_take 2 4 L5.out wf4 (by omega)).mono ?_
  rw [t5.1, t5.2.1, t5.2.2]
  rintro e w6 ⟨rfl, l6⟩
  have L6 := Lib.hid l6
  clear l6 L5
  go_wp2_with fail
  refine (live_take1 7 L6.out wf5 (by omega)).mono ?_
  rw [t6.1, t6.2.1, t6.2.2]
  rintro e w7 ⟨rfl, l7⟩
  have L7 := Lib.hid l7
  clear l7 L6
  go_wp2_with fail
  refine (live_find (k := 3) 9 L7.out wf5 (by omega) (by decide) (by decide) (by decide)).mono ?_
  rintro e w8 ⟨he, l8⟩
  have he2 : e = .returned (.tuple #[.agg #[.int .i64 8, .int .i64 2, .bool true], .bool true]) := he
  subst he2
  have L8 := Lib.hid (l8.below (up_alloc (Below.refl _ w8) (.cells #[.int .i64 8, .int .i64 2, .bool true] 40)))
  have hre := run_eq
  clear l8 L7 he
  go_wp2_with fail
  refine (live_free L8.out wf5 (by omega)).mono ?_
  rw [t7.1]
  rintro e w9 ⟨rfl, l9⟩
  have L9 := Lib.hid l9
  clear l9 L8
  go_wp2_with fail
  refine (live_largest L9.out wf5 (by omega)).mono ?_
  rw [t7.2]
  rintro e w10 ⟨rfl, l10⟩
  have L10 := Lib.hid l10
  clear l10 L9
  go_wp2_with fail
  refine (live_runs L10.out wf5 (by omega)).mono ?_
  rintro e w11 ⟨⟨g, cap, rfl, _, _, _⟩, l11⟩
  have L11 := Lib.hid l11
  have hlen : A5.length = 5 := rfl
  rw [hlen]
  clear l11 L10 hlen
  go_wp2_with fail
  refine (live_can 6 2 L11.out wf5 (by omega)).mono ?_
  rw [t8.1]
  rintro e w12 ⟨rfl, l12⟩
  have L12 := Lib.hid l12
  clear l12 L11
  go_wp2_with fail
  refine (live_can 6 4 L12.out wf5 (by omega)).mono ?_
  rw [t8.2]
  rintro e w13 ⟨rfl, l13⟩
  have L13 := Lib.hid l13
  clear l13 L12
  go_wp2
  go_ret
  exact ⟨rfl, L13.out.bel⟩
theorem great_any (n : Int) (A : Option Addr) (L c : Nat) (w : World) :
    Calls Try.prog 7 #[.int .i64 n, .slice A L c] w fun e w' => e = .returned (.bool (decide (200 < n ∨ 100 < L))) ∧ w = w' := by
  by_cases h1 : 200 < n
  · have d1 : decide (200 < n) = true := by simpa using h1
    have e : decide (200 < n ∨ 100 < L) = true := by simp [h1]
    rw [e]
    go_enter Try.func7, Try.ntmps7
    go_wp2
    go_ret
    exact ⟨rfl, rfl⟩
  · have d1 : decide (200 < n) = false := by simpa using h1
    have e : decide (200 < n ∨ 100 < L) = decide ((100 : Int) < (L : Int)) := by rw [decide_eq_decide]; omega
    rw [e]
    go_enter Try.func7, Try.ntmps7
    go_wp2
    go_ret
    exact ⟨rfl, rfl⟩
end Go.Proofs.Ytbfcejmifmeigaa
