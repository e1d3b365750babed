/-
  What is asked of a ground: contracts that the claimed proofs use.
-/
import Derived.Test.YtjnknnakllbaaaaGreatGrMem
import Derived.Test.YtjnknnakllbaaaaGreatSpEach
namespace Go.Proofs.YtjnknnakllbaaaaGreat.Gr
set_option maxRecDepth 100000
open Go.RowKit

/-- A region that draws its order, whose operations read what is the same in every world of a class, and whose calls leave worlds of it. -/
theorem region_in {id : Nat} {Q : Exit → Act → World → Prop} {a : Act} {w : World} {l : List Oper} (S : World → Prop) (hm : Tryz.prog.follows .mixedOrders = true) (hB : Region.lexB .any l.toArray = true) (hS : S w.drew)
    (h : ∀ (ι : Type) (_ : Nonempty ι) (f : ι → World), (∀ n, S (f n)) → (∀ W, S W → ∃ n, W = f n) → wpQuiet Tryz.prog l.toArray (fun w' => ∃ n, w' = f n) (fun a' => ∀ w', (∃ n, w' = f n) → Q .normal a' w') l a) :
    (Code.region id l.toArray true).wp Tryz.prog Q a w :=
  wp_region_quiet (C := fun w' => ∃ n : {W // S W}, w' = n.1) hm hB ⟨⟨w.drew, hS⟩, rfl⟩ (by simpa using h {W // S W} ⟨⟨w.drew, hS⟩⟩ Subtype.val (fun n => n.2) (fun W hW => ⟨⟨W, hW⟩, rfl⟩))
def mayB (v c s : Int) : Bool := decide (0 ≤ v) && (decide (v ≤ 2) && (decide (0 ≤ c) && (decide (c < 64) && (decide (0 ≤ s) && decide (s ≤ 1)))))
theorem mayB_iff {v c s : Int} : mayB v c s = true ↔ 0 ≤ v ∧ v ≤ 2 ∧ 0 ≤ c ∧ c < 64 ∧ 0 ≤ s ∧ s ≤ 1 := by simp [mayB]
theorem may_any (v c s : Int) (w : World) : Calls Tryz.prog 67 #[.int .i64 v, .int .i64 c, .int .i64 s] w fun e w' => e = .returned (.bool (mayB v c s)) ∧ w = w' := by
  obtain ⟨B, hB⟩ : ∃ B, mayB v c s = B := ⟨_, rfl⟩
  have HB := Lib.hid hB
  rw [hB]
  unfold mayB at hB
  cases h0 : decide (0 ≤ v) with
  | false =>
    rw [h0] at hB
    obtain rfl : B = false := by simpa using hB.symm
    clear hB HB
    go_enter Tryz.func67, Tryz.ntmps67
    go_wp2
    go_ret
    exact ⟨rfl, rfl⟩
  | true =>
    cases h1 : decide (v ≤ 2) with
    | false =>
      rw [h0, h1] at hB
      obtain rfl : B = false := by simpa using hB.symm
      clear hB HB
      go_enter Tryz.func67, Tryz.ntmps67
      go_wp2
      go_ret
      exact ⟨rfl, rfl⟩
    | true =>
      cases h2 : decide (0 ≤ c) with
      | false =>
        rw [h0, h1, h2] at hB
        obtain rfl : B = false := by simpa using hB.symm
        clear hB HB
        go_enter Tryz.func67, Tryz.ntmps67
        go_wp2
        go_ret
        exact ⟨rfl, rfl⟩
      | true =>
        cases h3 : decide (c < 64) with
        | false =>
          rw [h0, h1, h2, h3] at hB
          obtain rfl : B = false := by simpa using hB.symm
          clear hB HB
          go_enter Tryz.func67, Tryz.ntmps67
          go_wp2
          go_ret
          exact ⟨rfl, rfl⟩
        | true =>
          cases h4 : decide (0 ≤ s) with
          | false =>
            rw [h0, h1, h2, h3, h4] at hB
            obtain rfl : B = false := by simpa using hB.symm
            clear hB HB
            go_enter Tryz.func67, Tryz.ntmps67
            go_wp2
            go_ret
            exact ⟨rfl, rfl⟩
          | true =>
            rw [h0, h1, h2, h3, h4] at hB
            obtain rfl : B = decide (s ≤ 1) := by simpa using hB.symm
            clear hB HB
            go_enter Tryz.func67, Tryz.ntmps67
            go_wp2
            go_ret
            exact ⟨rfl, rfl⟩
section
variable {w w' : World} {q : Nat} {p : Pl} {N t : Int} {L : List Sp.Rn} {f : Ra.Ws} {S : List Le.Row} {bs : List (BitVec 8)}
theorem stamp_any (h : Gm w q p N L f t S bs) : Calls Tryz.prog 12 #[.pointer (some ⟨q, 0, none⟩)] w fun e w' => e = .returned (.int .u64 t) ∧ w = w' := by
  obtain ⟨c0, c1, c2, c3⟩ := h.gx.cells
  have HS := Lib.hid (Ra.stamp_any h.gx.mp.lay)
  clear h
  go_enter Tryz.func12, Tryz.ntmps12
  go_wp2_with (go_at_call 51; refine HS.out.mono ?_; rintro e w1 ⟨rfl, rfl⟩)
  go_ret
  exact ⟨rfl, rfl⟩
theorem held_any (k : Int) (h : Gm w q p N L f t S bs) : Calls Tryz.prog 20 #[.pointer (some ⟨q, 0, none⟩), .int .i64 k] w fun e w' => e = .returned (.int .i64 (Le.heldOf (Le.hd S) k)) ∧ w = w' := by
  obtain ⟨c0, c1, c2, c3⟩ := h.gx.cells
  have HS := Lib.hid (Le.held_any k h.gx.led.blk)
  clear h
  go_enter Tryz.func20, Tryz.ntmps20
  go_wp2_with (go_at_call 55; refine HS.out.mono ?_; rintro e w1 ⟨rfl, rfl⟩)
  go_ret
  exact ⟨rfl, rfl⟩
theorem peak_any (h : Gm w q p N L f t S bs) : Calls Tryz.prog 28 #[.pointer (some ⟨q, 0, none⟩)] w fun e w' => e = .returned (.int .i64 (Le.pk S)) ∧ w = w' := by
  obtain ⟨c0, c1, c2, c3⟩ := h.gx.cells
  have HS := Lib.hid (Le.peak_any h.gx.led.blk)
  clear h
  go_enter Tryz.func28, Tryz.ntmps28
  go_wp2_with (go_at_call 61; refine HS.out.mono ?_; rintro e w1 ⟨rfl, rfl⟩)
  go_ret
  exact ⟨rfl, rfl⟩
theorem cells_any (h : Gm w q p N L f t S bs) : Calls Tryz.prog 31 #[.pointer (some ⟨q, 0, none⟩)] w fun e w' => e = .returned (.pointer (some ⟨p.qc, 0, none⟩)) ∧ w = w' := by
  obtain ⟨c0, c1, c2, c3⟩ := h.gx.cells
  clear h
  go_enter Tryz.func31, Tryz.ntmps31
  go_wp2
  go_ret
  exact ⟨rfl, rfl⟩
theorem clen_any (h : Gm w q p N L f t S bs) : Calls Tryz.prog 32 #[.pointer (some ⟨p.qc, 0, none⟩)] w fun e w' => e = .returned (.int .i64 (256 * N)) ∧ w = w' := by
  have := Ce.len_any p.qc p.gc bs.length w h.gx.mem.cell
  rwa [h.len] at this
theorem pages_any (h : Gm w q p N L f t S bs) : Calls Tryz.prog 24 #[.pointer (some ⟨q, 0, none⟩)] w fun e w' => e = .returned (.int .i64 N) ∧ w = w' := by
  obtain ⟨c0, c1, c2, c3⟩ := h.gx.cells
  have HS := Lib.hid (clen_any h)
  have h0 := h.inv.n0
  have h1 := h.inv.n1
  have e1 : (256 * N).tdiv 256 = N := by rw [Int.tdiv_eq_ediv_of_nonneg (by omega)]; omega
  have e2 : (256 * N) / 256 = N := by omega
  clear h
  go_enter Tryz.func24, Tryz.ntmps24
  go_wp2_with (go_at_call 32; refine HS.out.mono ?_; rintro e w1 ⟨rfl, rfl⟩)
  go_ret
  exact ⟨rfl, rfl⟩
theorem free_any (h : Gm w q p N L f t S bs) : Calls Tryz.prog 25 #[.pointer (some ⟨q, 0, none⟩)] w fun e w' => e = .returned (.int .i64 (Sp.fsum L)) ∧ Below w.heap.size w w' := by
  obtain ⟨c0, c1, c2, c3⟩ := h.gx.cells
  have HS := Lib.hid (Sp.sum_any h.gx.sp h.inv.wf h.inv.n1)
  clear h
  go_enter Tryz.func25, Tryz.ntmps25
  go_wp2_with (go_at_call 57; refine HS.out.mono ?_; rintro e w1 ⟨rfl, b1⟩)
  go_ret
  exact ⟨rfl, b1⟩
def canB (L : List Sp.Rn) (n a : Int) : Bool := Sp.askB n a && Sp.bst n a L L.length != -1
theorem can_any (n a : Int) (h : Gm w q p N L f t S bs) : Calls Tryz.prog 26 #[.pointer (some ⟨q, 0, none⟩), .int .i64 n, .int .i64 a] w fun e w' => e = .returned (.bool (canB L n a)) ∧ Below w.heap.size w w' := by
  obtain ⟨c0, c1, c2, c3⟩ := h.gx.cells
  have HS := Lib.hid (Sp.can_any n a h.gx.sp h.inv.wf h.inv.n1)
  have e : (Sp.askB n a && Sp.bst n a L L.length != -1) = canB L n a := rfl
  rw [e] at HS
  clear h e
  go_enter Tryz.func26, Tryz.ntmps26
  go_wp2_with (go_at_call 58; refine HS.out.mono ?_; rintro e w1 ⟨rfl, b1⟩)
  go_ret
  exact ⟨rfl, b1⟩
end
end Go.Proofs.YtjnknnakllbaaaaGreat.Gr
