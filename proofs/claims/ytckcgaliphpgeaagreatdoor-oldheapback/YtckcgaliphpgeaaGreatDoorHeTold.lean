/-
  What a heap is asked of addresses: contracts that the claimed proofs use.
-/
import Derived.Test.YtckcgaliphpgeaaGreatDoorHeSeal
namespace Go.Proofs.YtckcgaliphpgeaaGreatDoor.He
set_option maxRecDepth 100000
open Go.RowKit
open Ta (sizeOf' classB)
open Bi (Drawn ret_i ret_b up_alloc up_drew up_trans tst sets)
open Ri (of of_nat up up_at up_far)
open Gr (kind kind_of kne)

set_option maxHeartbeats 1000000 in
theorem index_any (A : Option Addr) (c n : Nat) (xs : List Int) (y : Int) (w : World) (hA : Os.At w.heap.size w A (Os.ints xs)) (hn : xs.length = n) (hl : n ≤ 1048576) :
    Calls Tryz.prog 101 #[.slice A n c, .int .i64 y] w fun e w' => (∃ k : Int, e = .returned (.int .i64 k) ∧ (0 ≤ k ↔ y ∈ xs)) ∧ Drawn w w' := by
  have HA := Lib.hid hA
  have HN := Lib.hid hn
  clear hA hn
  go_enter Tryz.func101, Tryz.ntmps101
  go_wp2_with fail
  go_loopw [8] (fun i wr => ∃ k : Nat, k ≤ n ∧ i = .int .i64 k ∧ (∀ j, j < k → xs[j]? ≠ some y) ∧ Drawn w wr) (fun i _ => n - (intOf i).toNat)
  case atStart => exact ⟨0, by omega, rfl, fun j hj => by omega, Drawn.refl _⟩
  case round =>
    obtain ⟨k, hk, rfl, hno, hd⟩ := hrel
    have HNo := Lib.hid hno
    have HD := Lib.hid hd
    by_cases hlt : k < n
    · have hkl : k < xs.length := by rw [HN.out]; exact hlt
      obtain ⟨b, o, rfl, _, q0⟩ := (HA.out.below hd.below).int hkl
      have j1 : (0 : Int) ≤ (k : Int) := by omega
      have j2 : (k : Int) < (n : Int) := by omega
      obtain ⟨x, hx⟩ : ∃ x, xs[k] = x := ⟨_, rfl⟩
      rw [hx] at q0
      have HX : Hid (xs[k]? = some x) := by show _ = _; rw [List.getElem?_eq_getElem hkl, hx]
      clear hx hkl hno hd
      by_cases he : y = x
      · subst he
        have de : (y == y) = true := by simp
        go_wp2_with fail
        go_ret
        exact ⟨⟨k, rfl, fun _ => List.mem_of_getElem? HX.out, fun _ => by omega⟩, HD.out⟩
      · have de : (y == x) = false := by simpa using he
        have HE := Lib.hid he
        clear he
        go_wp2_with fail
        go_roundw
        case rel =>
          refine ⟨k + 1, by omega, by go_num, fun j hj => ?_, HD.out⟩
          by_cases e : j = k
          · subst e; rw [HX.out]; exact fun h => HE.out (Option.some.inj h).symm
          · exact HNo.out j (by omega)
        case measure => simp [intOf]; omega
    · obtain rfl : k = n := by omega
      clear hno hd
      go_wp2_with fail
      go_ret
      refine ⟨⟨-1, rfl, fun h => by omega, fun hm => ?_⟩, HD.out⟩
      obtain ⟨j, hj, e⟩ := List.mem_iff_getElem.1 hm
      exact absurd (by rw [List.getElem?_eq_getElem hj, e]) (HNo.out j (by rw [← HN.out]; exact hj))
theorem contains_any (A : Option Addr) (c n : Nat) (xs : List Int) (y : Int) (w : World) (hA : Os.At w.heap.size w A (Os.ints xs)) (hn : xs.length = n) (hl : n ≤ 1048576) :
    Calls Tryz.prog 52 #[.slice A n c, .int .i64 y] w fun e w' => e = .returned (.bool (decide (y ∈ xs))) ∧ Drawn w w' := by
  have HI := Lib.hid (index_any A c n xs y w hA hn hl)
  clear hA hn
  go_enter Tryz.func52, Tryz.ntmps52
  go_wp2_with fail
  refine HI.out.mono ?_
  rintro e w1 ⟨⟨k, rfl, hk⟩, hd⟩
  have HK := Lib.hid hk
  have HD := Lib.hid hd
  clear hk hd HI
  by_cases h : 0 ≤ k
  · have d : decide (0 ≤ k) = true := by simpa using h
    go_wp2_with fail
    go_ret
    exact ⟨ret_b (by symm; rw [decide_eq_true_eq]; exact HK.out.1 h), HD.out⟩
  · have d : decide (0 ≤ k) = false := by simpa using h
    go_wp2_with fail
    go_ret
    exact ⟨ret_b (by symm; rw [decide_eq_false_iff_not]; exact fun hm => by have := HK.out.2 hm; omega), HD.out⟩
section
variable {w w' : World} {P : Pl} {σ : St} {bs : List (BitVec 8)}
/-- Where an address is: its page and slot, and the error. -/
def findO (σ : St) (x : Int) : Int × Int × Int := match around σ x with
  | none => (0, 0, 12)
  | some p => match σ.U p with
    | some s => if Os.slotI s.l.length (256 * p) (sizeOf' s.c) x < 0 then (0, 0, 12) else (p, Os.slotI s.l.length (256 * p) (sizeOf' s.c) x, 0)
    | none => (0, 0, 12)
set_option maxHeartbeats 2000000 in
theorem find_any (h : Hm w P σ bs) (hi : HI σ) (x : Int) (hx : Os.I64 x) : Calls Tryz.prog 30 #[.pointer (some ⟨P.h, 0, none⟩), .int .i64 x] w fun e w' =>
    e = .returned (.tuple #[.agg #[.int .i64 (findO σ x).1, .int .i64 (findO σ x).2.1], .int .i64 (findO σ x).2.2]) ∧ Below w.heap.size w w' := by
  have hb0 := up_alloc (Below.refl w.heap.size w) (.cells #[.int .i64 0, .int .i64 0] 59)
  obtain ⟨w1, hw1⟩ : ∃ w1, w.alloc (.cells #[.int .i64 0, .int .i64 0] 59) = w1 := ⟨_, rfl⟩
  have K1 : Bi.Blk w1 w.heap.size [.int .i64 0, .int .i64 0] 59 := by rw [← hw1]; exact Gr.Blk.new w _ 59
  rw [hw1] at hb0
  have HH := Lib.hid (h.below hb0)
  have HAr := Lib.hid (around_any HH.out x hx)
  have B1 := Lib.hid hb0
  have HK1 := Lib.hid K1
  have fin : ∀ (W : World) (a b : Int), Bi.Blk W w.heap.size [.int .i64 0, .int .i64 0] 59 → Below w.heap.size w W →
      Hid (Bi.Blk ((W.setCell ⟨w.heap.size, 0, none⟩ (.int .i64 a)).setCell ⟨w.heap.size, 1, none⟩ (.int .i64 b)) w.heap.size [.int .i64 a, .int .i64 b] 59 ∧ Below w.heap.size w ((W.setCell ⟨w.heap.size, 0, none⟩ (.int .i64 a)).setCell ⟨w.heap.size, 1, none⟩ (.int .i64 b))) := fun W a b hb hbel =>
    ⟨(hb.set (i := 0) (.int .i64 a)).set (i := 1) (.int .i64 b), (hbel.setCell (p := ⟨w.heap.size, 0, none⟩) (Nat.le_refl _) _).setCell (p := ⟨w.heap.size, 1, none⟩) (Nat.le_refl _) _⟩
  unfold findO
  cases ha : around σ x with
  | none =>
    rw [ha] at HAr
    dsimp only
    unfold pV at HAr
    simp only [Option.map_none] at HAr
    clear h hi hx ha hb0 K1
    go_enter Tryz.func30, Tryz.ntmps30
    go_wp2_with fail
    refine HAr.out.mono ?_
    rintro e w2 ⟨rfl, b2⟩
    have K2 := HK1.out.below b2
    have B2 := Lib.hid (B1.out.trans (b2.mono B1.out.size))
    have f0 := K2.frozen 0
    have f1 := K2.frozen 1
    have d0 : w2.cell? ⟨w.heap.size, 0, none⟩ = some (.int .i64 0) := K2.cell
    have d1 : w2.cell? ⟨w.heap.size, 1, none⟩ = some (.int .i64 0) := K2.cell
    have HF := fin w2 0 0 K2 B2.out
    clear b2 K2 HAr hw1
    go_wp2_with fail
    generalize (w2.setCell ⟨w.heap.size, 0, none⟩ (.int .i64 0)).setCell ⟨w.heap.size, 1, none⟩ (.int .i64 0) = W9 at HF ⊢
    have g0 : W9.cell? ⟨w.heap.size, 0, none⟩ = some (.int .i64 0) := HF.out.1.cell
    have g1 : W9.cell? ⟨w.heap.size, 1, none⟩ = some (.int .i64 0) := HF.out.1.cell
    exact bodyPost_ret (v := .tuple #[.agg #[.int .i64 0, .int .i64 0], .int .i64 12]) (by simp [results, Tryz.results30, go_sem, g0, g1]) rfl ⟨rfl, HF.out.2⟩
  | some p =>
    obtain ⟨s, hM, _, _⟩ := around_some ha
    obtain ⟨hu, hO⟩ := hi.u hM
    rw [ha] at HAr
    dsimp only
    rw [hu]
    dsimp only
    unfold pV at HAr
    simp only [Option.map_some] at HAr
    have HSl := Lib.hid (fun (W : World) (hW : Hm W P σ bs) => Os.slot_any x hx (hW.sl p s hu) hW.tb)
    have HPg := Lib.hid (fun (W : World) (hW : Hm W P σ bs) => pageOf_any (hW.sl p s hu))
    obtain ⟨k, hk⟩ : ∃ k, Os.slotI s.l.length (256 * p) (sizeOf' s.c) x = k := ⟨_, rfl⟩
    rw [hk] at HSl ⊢
    clear h hi hx ha hb0 K1 hM hu hO hk
    by_cases hk0 : k < 0
    · rw [if_pos hk0]
      have e12 : Os.sle k = 12 := by unfold Os.sle; rw [if_pos hk0]
      rw [e12] at HSl
      clear e12 hk0
      dsimp only
      go_enter Tryz.func30, Tryz.ntmps30
      go_wp2_with fail
      refine HAr.out.mono ?_
      rintro e w2 ⟨rfl, b2⟩
      have K2 := HK1.out.below b2
      have B2 := Lib.hid (B1.out.trans (b2.mono B1.out.size))
      have f0 := K2.frozen 0
      have f1 := K2.frozen 1
      have d0 : w2.cell? ⟨w.heap.size, 0, none⟩ = some (.int .i64 0) := K2.cell
      have d1 : w2.cell? ⟨w.heap.size, 1, none⟩ = some (.int .i64 0) := K2.cell
      have HF := fin w2 0 0 K2 B2.out
      have HS2 := Lib.hid (HSl.out w2 (HH.out.below b2))
      clear b2 K2 HAr hw1 HSl HPg
      go_wp2_with fail
      refine HS2.out.mono ?_
      rintro e w' ⟨rfl, rfl⟩
      go_wp2_with fail
      generalize (w2.setCell ⟨w.heap.size, 0, none⟩ (.int .i64 0)).setCell ⟨w.heap.size, 1, none⟩ (.int .i64 0) = W9 at HF ⊢
      have g0 : W9.cell? ⟨w.heap.size, 0, none⟩ = some (.int .i64 0) := HF.out.1.cell
      have g1 : W9.cell? ⟨w.heap.size, 1, none⟩ = some (.int .i64 0) := HF.out.1.cell
      exact bodyPost_ret (v := .tuple #[.agg #[.int .i64 0, .int .i64 0], .int .i64 12]) (by simp [results, Tryz.results30, go_sem, g0, g1]) rfl ⟨rfl, HF.out.2⟩
    · rw [if_neg hk0]
      have e0 : Os.sle k = 0 := by unfold Os.sle; rw [if_neg hk0]
      rw [e0] at HSl
      clear e0 hk0
      dsimp only
      go_enter Tryz.func30, Tryz.ntmps30
      go_wp2_with fail
      refine HAr.out.mono ?_
      rintro e w2 ⟨rfl, b2⟩
      have K2 := HK1.out.below b2
      have B2 := Lib.hid (B1.out.trans (b2.mono B1.out.size))
      have f0 := K2.frozen 0
      have f1 := K2.frozen 1
      have d0 : w2.cell? ⟨w.heap.size, 0, none⟩ = some (.int .i64 0) := K2.cell
      have d1 : w2.cell? ⟨w.heap.size, 1, none⟩ = some (.int .i64 0) := K2.cell
      have HF := fin w2 p k K2 B2.out
      have HS2 := Lib.hid (HSl.out w2 (HH.out.below b2))
      have HP2 := Lib.hid (HPg.out w2 (HH.out.below b2))
      clear b2 K2 HAr hw1 HSl HPg
      go_wp2_with fail
      refine HS2.out.mono ?_
      rintro e w' ⟨rfl, rfl⟩
      go_wp2_with fail
      refine HP2.out.mono ?_
      rintro e w' ⟨rfl, rfl⟩
      go_wp2_with fail
      generalize (w2.setCell ⟨w.heap.size, 0, none⟩ (.int .i64 p)).setCell ⟨w.heap.size, 1, none⟩ (.int .i64 k) = W9 at HF ⊢
      have g0 : W9.cell? ⟨w.heap.size, 0, none⟩ = some (.int .i64 p) := HF.out.1.cell
      have g1 : W9.cell? ⟨w.heap.size, 1, none⟩ = some (.int .i64 k) := HF.out.1.cell
      exact bodyPost_ret (v := .tuple #[.agg #[.int .i64 p, .int .i64 k], .int .i64 0]) (by simp [results, Tryz.results30, go_sem, g0, g1]) rfl ⟨rfl, HF.out.2⟩
theorem ready_is (h : Hm w P σ bs) {c : Nat} (hc : c < 16) : Calls Tryz.prog 33 #[.pointer (some ⟨P.h, 0, none⟩), .int .i64 c] w fun e w' => e = .returned (.bool (decide (σ.R (4 * c) ≠ []) || decide (σ.R (4 * c + 2) ≠ []))) ∧ Below w.heap.size w w' := by
  have H0 := Lib.hid (has_list h hc (l := 0) (by omega))
  have H2 := Lib.hid (fun (W : World) (hW : Hm W P σ bs) => has_list hW hc (l := 2) (by omega))
  have HH := Lib.hid h
  rw [Nat.add_zero, show ((0 : Nat) : Int) = 0 from rfl] at H0
  rw [show ((2 : Nat) : Int) = 2 from rfl] at H2
  generalize decide (σ.R (4 * c) ≠ []) = a at H0 ⊢
  generalize decide (σ.R (4 * c + 2) ≠ []) = b at H2 ⊢
  clear h
  cases a with
  | true =>
    go_enter Tryz.func33, Tryz.ntmps33
    go_wp2_with fail
    refine H0.out.mono ?_
    rintro e w1 ⟨rfl, d1⟩
    have B1 := Lib.hid d1.below
    clear d1
    go_wp2_with fail
    go_ret
    exact ⟨rfl, B1.out⟩
  | false =>
    go_enter Tryz.func33, Tryz.ntmps33
    go_wp2_with fail
    refine H0.out.mono ?_
    rintro e w1 ⟨rfl, d1⟩
    have B1 := Lib.hid d1.below
    have H3 := Lib.hid (H2.out w1 (HH.out.below d1.below))
    clear d1
    go_wp2_with fail
    refine H3.out.mono ?_
    rintro e w2 ⟨rfl, d2⟩
    have B2 := Lib.hid (up_trans B1.out d2.below)
    clear d2
    go_wp2_with fail
    go_ret
    exact ⟨by simp, B2.out⟩
/-- A copy of a page's slab. -/
theorem slab_no (h : Hm w P σ bs) {x : Int} (hx : I64 x) (ha : atI σ x = none) : Calls Tryz.prog 12 #[.pointer (some ⟨P.h, 0, none⟩), .int .i64 x] w fun e w' => e = .returned (.pointer none) ∧ w = w' := by
  have c1 := h.cells.2.1
  have hl := h.look hx 0
  rw [ha] at hl
  have hl' : (Instr.lookup 79 (.map (some P.b)) (.int .i64 x) true).run Tryz.prog w = .ok (.tuple #[.pointer none, .bool false]) w := hl
  clear h hx ha hl
  go_enter Tryz.func12, Tryz.ntmps12
  go_wp2_with fail
  go_ret
  exact ⟨rfl, rfl⟩
theorem slab_yes (h : Hm w P σ bs) {p : Nat} {s : Sb} (hM : σ.M p = some s) (hpN : p < σ.N) : Calls Tryz.prog 12 #[.pointer (some ⟨P.h, 0, none⟩), .int .i64 p] w (Os.GaveS (256 * p) s.c s.l w) := by
  have c1 := h.cells.2.1
  have hx : I64 (p : Int) := by have := h.hN; unfold I64; omega
  have hl := h.look hx 0
  rw [atI_nat, hM] at hl
  have hl' : (Instr.lookup 79 (.map (some P.b)) (.int .i64 (p : Int)) true).run Tryz.prog w = .ok (.tuple #[.pointer (some ⟨(P.A p).s, 0, none⟩), .bool true]) w := hl
  have HC := Lib.hid (Os.clone_any (h.sl p s (M_some hM).2))
  clear h hx hM hl
  go_enter Tryz.func12, Tryz.ntmps12
  go_wp2_with fail
  refine HC.out.mono ?_
  rintro e w1 ⟨s', q, g, rfl, h1, h2, h3, h4⟩
  have R := Lib.hid (And.intro h1 (And.intro h2 (And.intro h3 h4)))
  clear h1 h2 h3 h4 HC
  go_wp2_with fail
  go_ret
  exact ⟨s', q, g, rfl, R.out.1, R.out.2.1, R.out.2.2.1, R.out.2.2.2⟩
end
end Go.Proofs.YtckcgaliphpgeaaGreatDoor.He
