/-
  What New does: contracts that the claimed proofs use.
-/
import Derived.Test.YtjjilnklcjgndaaMake
import Derived.Deep.DeepCutAuto
namespace Go.Proofs.Ytjjilnklcjgndaa
open Go.RowKit

theorem new_no (n m : Int) (w : World) (h : n < 0 ∨ 4096 < n ∨ m < 1 ∨ 256 < m) :
    Calls Try.prog 8 #[.int .i64 n, .int .i64 m] w fun e w' => e = .returned (.tuple #[.pointer none, .int .i64 11]) ∧ w = w' := by
  by_cases h1 : n < 0
  · have d1 : decide (n < 0) = true := by simpa using h1
    go_enter Try.func8, Try.ntmps8
    go_wp2
    go_ret2
    exact ⟨rfl, rfl⟩
  · have d1 : decide (n < 0) = false := by simpa using h1
    by_cases h2 : 4096 < n
    · have d2 : decide (4096 < n) = true := by simpa using h2
      go_enter Try.func8, Try.ntmps8
      go_wp2
      go_ret2
      exact ⟨rfl, rfl⟩
    · have d2 : decide (4096 < n) = false := by simpa using h2
      by_cases h3 : m < 1
      · have d3 : decide (m < 1) = true := by simpa using h3
        go_enter Try.func8, Try.ntmps8
        go_wp2
        go_ret2
        exact ⟨rfl, rfl⟩
      · have d3 : decide (m < 1) = false := by simpa using h3
        have h4 : 256 < m := by omega
        have d4 : decide (256 < m) = true := by simpa using h4
        go_enter Try.func8, Try.ntmps8
        go_wp2
        go_ret2
        exact ⟨rfl, rfl⟩
/-! ### Five new blocks -/
theorem five (w : World) (o1 o2 o3 o4 o5 : Obj) : (((((w.alloc o1).alloc o2).alloc o3).alloc o4).alloc o5).drew.heap[w.heap.size]? = some o1 ∧ (((((w.alloc o1).alloc o2).alloc o3).alloc o4).alloc o5).drew.heap[w.heap.size + 1]? = some o2 ∧
    (((((w.alloc o1).alloc o2).alloc o3).alloc o4).alloc o5).drew.heap[w.heap.size + 1 + 1]? = some o3 ∧ (((((w.alloc o1).alloc o2).alloc o3).alloc o4).alloc o5).drew.heap[w.heap.size + 1 + 1 + 1]? = some o4 ∧
    (((((w.alloc o1).alloc o2).alloc o3).alloc o4).alloc o5).drew.heap[w.heap.size + 1 + 1 + 1 + 1]? = some o5 := by
  have s1 : (w.alloc o1).heap.size = w.heap.size + 1 := World.size_alloc ..
  have s2 : ((w.alloc o1).alloc o2).heap.size = w.heap.size + 1 + 1 := by rw [World.size_alloc, s1]
  have s3 : (((w.alloc o1).alloc o2).alloc o3).heap.size = w.heap.size + 1 + 1 + 1 := by rw [World.size_alloc, s2]
  have s4 : ((((w.alloc o1).alloc o2).alloc o3).alloc o4).heap.size = w.heap.size + 1 + 1 + 1 + 1 := by rw [World.size_alloc, s3]
  refine ⟨?_, ?_, ?_, ?_, ?_⟩
  · show (((((w.alloc o1).alloc o2).alloc o3).alloc o4).alloc o5).heap[w.heap.size]? = some o1
    rw [Below.heap_alloc _ _ _ (by omega), Below.heap_alloc _ _ _ (by omega), Below.heap_alloc _ _ _ (by omega), Below.heap_alloc _ _ _ (by omega), heap_alloc_new]
  · show (((((w.alloc o1).alloc o2).alloc o3).alloc o4).alloc o5).heap[w.heap.size + 1]? = some o2
    rw [Below.heap_alloc _ _ _ (by omega), Below.heap_alloc _ _ _ (by omega), Below.heap_alloc _ _ _ (by omega), ← s1, heap_alloc_new]
  · show (((((w.alloc o1).alloc o2).alloc o3).alloc o4).alloc o5).heap[w.heap.size + 1 + 1]? = some o3
    rw [Below.heap_alloc _ _ _ (by omega), Below.heap_alloc _ _ _ (by omega), ← s2, heap_alloc_new]
  · show (((((w.alloc o1).alloc o2).alloc o3).alloc o4).alloc o5).heap[w.heap.size + 1 + 1 + 1]? = some o4
    rw [Below.heap_alloc _ _ _ (by omega), ← s3, heap_alloc_new]
  · show (((((w.alloc o1).alloc o2).alloc o3).alloc o4).alloc o5).heap[w.heap.size + 1 + 1 + 1 + 1]? = some o5
    rw [← s4, heap_alloc_new]
theorem row_of {w : World} {g n : Nat} (h : w.heap[g]? = some (.cells (madeCells #[.int .i64 0] n) 3)) : Row w g n (fun _ => 0) := by
  refine ⟨List.replicate n (.int .i64 0), ?_, fun i hi => by rw [List.getElem?_replicate, if_pos hi]⟩
  unfold Blk
  rw [h]
  congr 2
  apply Array.ext'
  rw [toList_madeCells_one]
/-- What New has made ahead of its loops. -/
def Made (w : World) (n m : Nat) (s : Value) (wx : World) : Prop := ∃ p : Pl, s = .pointer (some ⟨p.q, 0, none⟩) ∧ p.n = n ∧ p.m = m ∧ p.lo = w.heap.size ∧ RM wx p (fun _ => 0) (fun _ => 0) (fun _ => 0) (fun _ => 0) ∧ Below w.heap.size w wx
theorem made_of (w : World) (n m a b c d : Nat) (o1 o2 o3 o4 : Obj) (W : World) (hn : n ≤ 4096) (hm : m ≤ 256)
    (hW : (((((w.alloc o1).alloc o2).alloc o3).alloc o4).alloc (.cells #[.slice (some ⟨a, 0, none⟩) n n, .slice (some ⟨b, 0, none⟩) m m, .slice (some ⟨c, 0, none⟩) (n + m) (n + m), .slice (some ⟨d, 0, none⟩) (n + m) (n + m)] 54)).drew = W)
    (ha : W.heap[a]? = some (.cells (madeCells #[.int .i64 0] n) 3)) (hb : W.heap[b]? = some (.cells (madeCells #[.int .i64 0] m) 3))
    (hc : W.heap[c]? = some (.cells (madeCells #[.int .i64 0] (n + m)) 3)) (hd : W.heap[d]? = some (.cells (madeCells #[.int .i64 0] (n + m)) 3))
    (h1 : a ≠ b ∧ a ≠ c ∧ a ≠ d ∧ b ≠ c ∧ b ≠ d ∧ c ≠ d) (h2 : w.heap.size ≤ a ∧ w.heap.size ≤ b ∧ w.heap.size ≤ c ∧ w.heap.size ≤ d) (h3 : a < w.heap.size + 4 ∧ b < w.heap.size + 4 ∧ c < w.heap.size + 4 ∧ d < w.heap.size + 4) :
    Made w n m (.pointer (some ⟨w.heap.size + 1 + 1 + 1 + 1, 0, none⟩)) W := by
  have hq := (five w o1 o2 o3 o4 (.cells #[.slice (some ⟨a, 0, none⟩) n n, .slice (some ⟨b, 0, none⟩) m m, .slice (some ⟨c, 0, none⟩) (n + m) (n + m), .slice (some ⟨d, 0, none⟩) (n + m) (n + m)] 54)).2.2.2.2
  have hbel : Below w.heap.size w (((((w.alloc o1).alloc o2).alloc o3).alloc o4).alloc (.cells #[.slice (some ⟨a, 0, none⟩) n n, .slice (some ⟨b, 0, none⟩) m m, .slice (some ⟨c, 0, none⟩) (n + m) (n + m), .slice (some ⟨d, 0, none⟩) (n + m) (n + m)] 54)).drew :=
    (up_alloc (up_alloc (up_alloc (up_alloc (up_alloc (Below.refl _ _) _) _) _) _) _).drew
  rw [hW] at hq hbel
  have hqb : Blk W (w.heap.size + 1 + 1 + 1 + 1) [.slice (some ⟨a, 0, none⟩) n n, .slice (some ⟨b, 0, none⟩) m m, .slice (some ⟨c, 0, none⟩) (n + m) (n + m), .slice (some ⟨d, 0, none⟩) (n + m) (n + m)] 54 := hq
  have hlt := hqb.lt
  refine ⟨⟨w.heap.size, w.heap.size + 5, w.heap.size + 1 + 1 + 1 + 1, a, b, c, d, n, m, n + m, n + m, n, m⟩, rfl, rfl, rfl, rfl, ⟨?_, by show w.heap.size + 5 ≤ _; omega, hqb.cell, hqb.cell, hqb.cell, hqb.cell, row_of ha, row_of hb, row_of hc, row_of hd⟩, hbel⟩
  constructor <;> dsimp only <;> omega
set_option maxHeartbeats 4000000 in
theorem new_yes (n m : Nat) (hn : n ≤ 4096) (hm1 : 1 ≤ m) (hm : m ≤ 256) (w : World) :
    Calls Try.prog 8 #[.int .i64 (n : Int), .int .i64 (m : Int)] w fun e w' => ∃ p : Pl, e = .returned (.tuple #[.pointer (some ⟨p.q, 0, none⟩), .int .i64 0]) ∧ p.n = n ∧ p.m = m ∧ p.lo = w.heap.size ∧ Ring w' p (fun _ => []) ∧ Below w.heap.size w w' := by
  have mk1 := make_ints n n (by omega) (by omega)
  have mk2 := make_ints m m (by omega) (by omega)
  have mk3 := make_ints (n + m) (n + m) (by omega) (by omega)
  simp only [Int.natCast_add] at mk3
  have d1 : decide ((n : Int) < 0) = false := by simp
  have d2 : decide ((4096 : Int) < (n : Int)) = false := by simp; omega
  have d3 : decide ((m : Int) < 1) = false := by simp; omega
  have d4 : decide ((256 : Int) < (m : Int)) = false := by simp; omega
  go_enter Try.func8, Try.ntmps8
  go_upto_region 3 with fail
  go_cut [6] (fun s6 wx => Made w n m s6 wx)
  case first =>
    go_region
    all_goals (go_wp2_with fail; go_meet)
    all_goals refine made_of w n m _ _ _ _ _ _ _ _ _ hn hm rfl ?_ ?_ ?_ ?_ (by omega) (by omega) (by omega)
    all_goals first | exact (five w _ _ _ _ _).1 | exact (five w _ _ _ _ _).2.1 | exact (five w _ _ _ _ _).2.2.1 | exact (five w _ _ _ _ _).2.2.2.1
  case rest =>
  obtain ⟨p, rfl, hpn, hpm, hplo, hrm, hbel⟩ := hcut
  have HR := Lib.hid hrm
  have HBe := Lib.hid hbel
  have g0 := hrm.s0
  rw [hpn] at g0
  have HPN := Lib.hid hpn
  have HPM := Lib.hid hpm
  have HLO := Lib.hid hplo
  clear mk1 mk2 mk3 hrm hbel hpn hpm hplo d1 d2 d3 d4
  go_wp2_with fail
  clear g0
  go_loopw [43] (fun i wr => ∃ (k : Nat) (inn : Nat → Int), k ≤ n ∧ i = .int .i64 k ∧ RM wr p inn (fun _ => 0) (fun _ => 0) (fun _ => 0) ∧ (∀ x, x < k → inn x = -1) ∧ Below w.heap.size w wr) (fun i _ => n - (intOf i).toNat)
  case atStart => exact ⟨0, _, by omega, rfl, HR.out, fun x hx => by omega, HBe.out⟩
  case round =>
    obtain ⟨k, inn, hk, rfl, hrm, hneg, hbel⟩ := hrel
    have HR1 := Lib.hid hrm
    have HB1 := Lib.hid hbel
    have HN := Lib.hid hneg
    clear hneg hbel HR HBe
    by_cases hlt : k < n
    · have g0 := hrm.s0
      rw [HPN.out] at g0
      have hkp : k < p.n := by rw [HPN.out]; exact hlt
      have c0 := hrm.r0.cell hkp
      have f0 := hrm.r0.frozen k
      have oqa := hrm.ok.qa
      have b1 : (0 : Int) ≤ (k : Int) := by omega
      have b2 : (k : Int) < (n : Int) := by omega
      clear hrm
      go_wp2
      go_roundw
      case rel =>
        refine ⟨k + 1, up inn k (-1), by omega, by go_num, HR1.out.set0 hkp (-1), fun x hx => ?_, HB1.out.setCell (p := ⟨p.a, k, none⟩) (by have := HR1.out.ok.a1.1; rw [HLO.out] at this; exact this) _⟩
        by_cases e : x = k
        · subst e; rw [up_at]
        · rw [up_far e]; exact HN.out x (by omega)
      case measure => simp [intOf]; omega
    · obtain rfl : k = n := by omega
      have g1 := hrm.s1
      rw [HPM.out] at g1
      clear hrm
      go_wp2_with fail
      clear g1
      go_loopw [58] (fun i wr => ∃ (j : Nat) (nx pv : Nat → Nat), j ≤ m ∧ i = .int .i64 j ∧ RM wr p inn (fun _ => 0) nx pv ∧ (∀ i, i < j → nx (p.n + i) = p.n + i ∧ pv (p.n + i) = p.n + i) ∧ Below w.heap.size w wr) (fun i _ => m - (intOf i).toNat)
      case atStart => exact ⟨0, _, _, by omega, rfl, HR1.out, fun x hx => by omega, HB1.out⟩
      case round =>
        obtain ⟨j, nx, pv, hj, rfl, hrm, hself, hbel⟩ := hrel
        have HR2 := Lib.hid hrm
        have HB2 := Lib.hid hbel
        have HS := Lib.hid hself
        clear hself hbel HR1 HB1
        by_cases hlt : j < m
        · have hjN : p.n + j < p.n + p.m := by have := HPM.out; omega
          have g2 := hrm.s2
          have g3 := hrm.s3
          have c2 := hrm.r2.cell hjN
          have c3 := hrm.r3.cell hjN
          have f2 := hrm.r2.frozen (p.n + j)
          have f3 := hrm.r3.frozen (p.n + j)
          have oqc := hrm.ok.qc
          have oqd := hrm.ok.qd
          have ocd := hrm.ok.cd'
          have HK := Lib.hid (knot_any p.q p.a p.n p.ca j wr hrm.s0 hrm.ok.n1 (by omega))
          have HJN := Lib.hid hjN
          obtain ⟨z, hz⟩ : ∃ z, p.n + j = z := ⟨_, rfl⟩
          obtain ⟨N, hN⟩ : ∃ N, p.n + p.m = N := ⟨_, rfl⟩
          rw [hz] at c2 c3 f2 f3 HK hjN
          rw [hN] at g2 g3 hjN
          have HZ := Lib.hid hz
          have b1 : (0 : Int) ≤ (z : Int) := by omega
          have b2 : (z : Int) < (N : Int) := by omega
          clear hrm hz hN
          go_wp2_with (go_at_call 25; refine HK.out.mono ?_; rintro e w' ⟨rfl, rfl⟩)
          go_region
          go_wp2
          go_roundw
          case rel =>
            have hlo := HLO.out
            have h1 := (HR2.out.set2 HJN.out (p.n + j)).set3 HJN.out (p.n + j)
            rw [HZ.out] at h1
            refine ⟨j + 1, up nx z z, up pv z z, by omega, by go_num, h1.drew, fun i hi => ?_, ((HB2.out.setCell (p := ⟨p.c, z, none⟩) (by rw [← hlo]; exact HR2.out.ok.c1.1) _).setCell (p := ⟨p.d, z, none⟩) (by rw [← hlo]; exact HR2.out.ok.d1.1) _).drew⟩
            by_cases e : i = j
            · subst e; rw [HZ.out, up_at, up_at]; exact ⟨rfl, rfl⟩
            · have : p.n + i ≠ z := by have := HZ.out; omega
              rw [up_far this, up_far this]; exact HS.out i (by omega)
          case measure => simp [intOf]; omega
        · obtain rfl : j = m := by omega
          clear hrm
          go_wp2
          go_ret2
          exact ⟨p, rfl, HPN.out, HPM.out, HLO.out, ⟨_, _, _, _, HR2.out, Fits.none _ _ _ _ _ _ (fun x hx => HN.out x (by rw [← HPN.out]; exact hx)) (fun _ _ => rfl) (fun i hi => HS.out i (by rw [← HPM.out]; exact hi))⟩, HB2.out⟩
end Go.Proofs.Ytjjilnklcjgndaa
