/-
  The program's spans beside the document's: a call on both; contracts that the claimed proofs use.
-/
import Derived.Test.YtbfcejmifmeigaaRefOps
namespace Go.Proofs.Ytbfcejmifmeigaa
open Go.RowKit

/-- The program's spans are L, the document's LR. -/
def Both (w0 : World) (q qr gr N : Nat) (L LR : List Rn) (w : World) : Prop :=
  Rs w qr gr N LR ∧ w0.heap.size ≤ gr ∧ Live w0 q (fun k o => (k = qr ∨ k = gr) ∧ w.heap[k]? = some o) L w
section
variable {w0 w w' : World} {q qr gr N : Nat} {L L' LR LR' : List Rn}
theorem Both.bel (h : Both w0 q qr gr N L LR w) : Below w0.heap.size w0 w := h.2.2.bel
theorem Both.prog (h : Both w0 q qr gr N L LR w) (hl : Live w0 q (fun k o => (k = qr ∨ k = gr) ∧ w.heap[k]? = some o) L' w') : Both w0 q qr gr N L' LR w' := by
  obtain ⟨h1, h2, _⟩ := h
  have e1 : w'.heap[qr]? = w.heap[qr]? := (hl.prot ⟨.inl rfl, h1.1⟩).trans h1.1.symm
  obtain ⟨vs, hb, hv⟩ := h1.2.1
  have e2 : w'.heap[gr]? = w.heap[gr]? := (hl.prot ⟨.inr rfl, hb⟩).trans hb.symm
  refine ⟨h1.of e1 e2, h2, ?_⟩
  obtain ⟨g, s, a1, a2, a3, a4⟩ := hl
  refine ⟨g, s, a1, a2, a3, ?_⟩
  rintro k o ⟨hk, ho⟩
  have ho2 : w.heap[k]? = some o := by
    rcases hk with rfl | rfl
    · rw [← e1]; exact ho
    · rw [← e2]; exact ho
  obtain ⟨b1, b2, _⟩ := a4 k o ⟨hk, ho2⟩
  exact ⟨b1, b2, ho⟩
theorem Both.doc (h : Both w0 q qr gr N L LR w) (hr : Rs w' qr gr N LR') (hg : w.grownBy w' (some gr)) : Both w0 q qr gr N L LR' w' := by
  obtain ⟨h1, h2, g, s, a1, a2, a3, a4⟩ := h
  obtain ⟨vs, hb, hv⟩ := h1.2.1
  have n1 := a4 qr _ ⟨.inl rfl, h1.1⟩
  have n2 := a4 gr _ ⟨.inr rfl, hb⟩
  have hlt := s.lt
  refine ⟨hr, h2, g, s.of (hg.block q hlt.1 (by simp; exact fun e => n2.1 e.symm)) (hg.block g hlt.2 (by simp; exact fun e => n2.2.1 e.symm)), a1, a2, grown_new a3 hg h2, ?_⟩
  rintro k o ⟨hk, ho⟩
  rcases hk with rfl | rfl
  · exact ⟨n1.1, n1.2.1, ho⟩
  · exact ⟨n2.1, n2.2.1, ho⟩
theorem Both.below (h : Both w0 q qr gr N L LR w) (hb : Below w.heap.size w w') : Both w0 q qr gr N L LR w' := h.prog (h.2.2.below hb)
theorem both_new (hb : Below w0.heap.size w0 w) (hl : Live w0 q (fun _ _ => False) L w) (hr : Rs w' qr gr N LR) (hq : w.heap.size ≤ qr) (hg : w.heap.size ≤ gr) (hb' : Below w.heap.size w w') : Both w0 q qr gr N L LR w' := by
  obtain ⟨g, s, a1, a2, a3, _⟩ := hl
  have hlt := s.lt
  have := hb.size
  refine ⟨hr, by omega, g, s.below hb', a1, a2, up_trans a3 hb', ?_⟩
  rintro k o ⟨hk, ho⟩
  refine ⟨by omega, by omega, ho⟩
end
theorem can_tke (L : List Rn) (n a : Int) : (askB n a && bst n a L L.length != -1) = (tke L n a == 0) := by
  unfold tke
  cases h : askB n a with
  | false => rfl
  | true =>
    rw [if_pos rfl, Bool.true_and]
    by_cases hb : bst n a L L.length = -1
    · rw [if_pos hb, hb]; rfl
    · rw [if_neg hb]; simpa using hb
theorem Live.weaken {w0 w : World} {q : Nat} {K K' : Nat → Obj → Prop} {L : List Rn} (h : Live w0 q K L w) (hk : ∀ k o, K' k o → K k o) : Live w0 q K' L w := by
  obtain ⟨g, s, a1, a2, a3, a4⟩ := h
  exact ⟨g, s, a1, a2, a3, fun k o h => a4 k o (hk k o h)⟩
/-- A box that is made beside them stays. -/
theorem Both.boxed {w0 w : World} {q qr gr N : Nat} {L LR : List Rn} (h : Both w0 q qr gr N L LR w) (ob : Obj) :
    Live w0 q (fun k o => ((k = qr ∨ k = gr) ∧ (w.alloc ob).heap[k]? = some o) ∨ (k = w.heap.size ∧ o = ob)) L (w.alloc ob) := by
  have h2 := h.below (up_alloc (Below.refl _ w) ob)
  have a3 := h2.2.2.bel
  obtain ⟨hr, _, g1, s1, b1, b2, b3, b4⟩ := h
  have hlt := s1.lt
  refine ⟨g1, s1.below (up_alloc (Below.refl _ w) ob), b1, b2, a3, ?_⟩
  rintro k o (⟨hk, ho⟩ | ⟨rfl, rfl⟩)
  · have hkl : k < w.heap.size := by
      rcases hk with rfl | rfl
      · exact hr.1.lt
      · exact hr.2.1.lt
    have ho2 : w.heap[k]? = some o := by rw [heap_alloc_old _ _ hkl] at ho; exact ho
    obtain ⟨c1, c2, _⟩ := b4 k o ⟨hk, ho2⟩
    exact ⟨c1, c2, ho⟩
  · exact ⟨by omega, by omega, heap_alloc_new w _⟩
set_option maxHeartbeats 2000000 in
theorem do_any {w0 w : World} {q qr gr N : Nat} {L : List Rn} (b : Bool) (n a : Int) (h : Both w0 q qr gr N L L w) (hw : WF (N : Int) L) (hN : N ≤ 4096) :
    Calls Try.prog 10 #[.pointer (some ⟨q, 0, none⟩), .pointer (some ⟨qr, 0, none⟩), .agg #[.bool b, .int .i64 n, .int .i64 a]] w fun e w' => e = .returned (.bool true) ∧ ∃ L', WF (N : Int) L' ∧ Both w0 q qr gr N L' L' w' := by
  have hA : Below w.heap.size w (w.alloc (.cells #[.bool b, .int .i64 n, .int .i64 a] 34)) := up_alloc (Below.refl _ _) _
  have H1 := Lib.hid (h.below hA)
  have HX := Lib.hid (h.boxed (.cells #[.bool b, .int .i64 n, .int .i64 a] 34))
  have HW := Lib.hid hw
  clear h hw hA
  cases b with
  | true =>
    have HP := Lib.hid (live_give n HX.out HW.out (by omega))
    have HWL := Lib.hid (gv_wf HW.out n)
    have HR : Hid (∀ W, Rs W qr gr N L → Calls Try.prog 22 #[.pointer (some ⟨qr, 0, none⟩), .int .i64 n] W fun e w' => e = .returned (.tuple #[.int .i64 (gvv L n), .int .i64 (gve L n)]) ∧ Rs w' qr gr N (gvL L n) ∧ W.grownBy w' (some gr)) := fun W hR => rgive_any n hR HW.out hN
    generalize gvL L n = L' at HP HWL HR
    generalize gvv L n = v1 at HP HR
    generalize gve L n = v2 at HP HR
    go_enter Try.func10, Try.ntmps10
    go_wp2_with fail
    refine HP.out.mono ?_
    rintro e w2 ⟨rfl, l2⟩
    have B2 := Lib.hid (H1.out.prog (l2.weaken fun k o hk => .inl hk))
    have hbx : Blk w2 w.heap.size [.bool true, .int .i64 n, .int .i64 a] 34 := l2.prot (.inr ⟨rfl, rfl⟩)
    have c1 : w2.cell? ⟨w.heap.size, 1, none⟩ = some (.int .i64 n) := hbx.cell
    clear l2 hbx HP HX
    go_wp2_with fail
    refine (HR.out _ B2.out.1).mono ?_
    rintro e w3 ⟨rfl, r3, g3⟩
    have B3 := Lib.hid (B2.out.doc r3 g3)
    have e1 : (v1 == v1) = true := by simp
    have e2 : (v2 == v2) = true := by simp
    clear r3 g3 HR B2
    go_wp2
    go_ret
    exact ⟨rfl, L', HWL.out, B3.out⟩
  | false =>
    have HP := Lib.hid (live_take n a HX.out HW.out (by omega))
    have HWL := Lib.hid (tk_wf HW.out n a)
    have HR : Hid (∀ W, Rs W qr gr N L → Calls Try.prog 14 #[.pointer (some ⟨qr, 0, none⟩), .int .i64 n, .int .i64 a] W fun e w' => e = .returned (.tuple #[.int .i64 (tkv L n a), .int .i64 (tke L n a)]) ∧ Rs w' qr gr N (tkL L n a) ∧ W.grownBy w' (some gr)) := fun W hR => rtake_any n a hR HW.out hN
    generalize tkL L n a = L' at HP HWL HR
    generalize tkv L n a = v1 at HP HR
    generalize tke L n a = v2 at HP HR
    go_enter Try.func10, Try.ntmps10
    go_wp2_with fail
    refine HP.out.mono ?_
    rintro e w2 ⟨rfl, l2⟩
    have B2 := Lib.hid (H1.out.prog (l2.weaken fun k o hk => .inl hk))
    have hbx : Blk w2 w.heap.size [.bool false, .int .i64 n, .int .i64 a] 34 := l2.prot (.inr ⟨rfl, rfl⟩)
    have c1 : w2.cell? ⟨w.heap.size, 1, none⟩ = some (.int .i64 n) := hbx.cell
    have c2 : w2.cell? ⟨w.heap.size, 2, none⟩ = some (.int .i64 a) := hbx.cell
    clear l2 hbx HP HX
    go_wp2_with fail
    refine (HR.out _ B2.out.1).mono ?_
    rintro e w3 ⟨rfl, r3, g3⟩
    have B3 := Lib.hid (B2.out.doc r3 g3)
    have e1 : (v1 == v1) = true := by simp
    have e2 : (v2 == v2) = true := by simp
    clear r3 g3 HR B2
    go_wp2
    go_ret
    exact ⟨rfl, L', HWL.out, B3.out⟩
end Go.Proofs.Ytbfcejmifmeigaa
