import Derived.Test.YtckcgaliphpgeaaGreatDoorRiA
import Derived.Deep.DeepCutAuto
/-
  How rows of numbers are made: laws that the claimed proofs use.
-/
namespace Go.Proofs.YtckcgaliphpgeaaGreatDoor.Ri
set_option maxRecDepth 100000
open Go.RowKit

theorem int_info : (Tryz.prog.info? 3).map (fun i => (i.zero, i.size, i.bytes)) = some (some (.int .i64 0), 1, 8) := by kernel_rfl
theorem info_parts {t : TypeId} {z : Value} {s b : Nat} (h : (Tryz.prog.info? t).map (fun i => (i.zero, i.size, i.bytes)) = some (some z, s, b)) : ∃ i, Tryz.prog.info? t = some i ∧ i.zero = some z ∧ i.size = s ∧ i.bytes = b := by
  obtain ⟨i, hi, hp⟩ := Option.map_eq_some_iff.1 h
  simp only [Prod.mk.injEq] at hp
  exact ⟨i, hi, hp.1, hp.2.1, hp.2.2⟩
theorem make_ints (n c : Nat) (hn : n ≤ c) (hc : c ≤ 8192) (W : World) :
    (Instr.makeSlice 29 (.int .i64 (n : Int)) (.int .i64 (c : Int))).run Tryz.prog W = .ok (.slice (some ⟨W.heap.size, 0, none⟩) n c) (W.alloc (.cells (madeCells #[.int .i64 0] c) 3)) := by
  obtain ⟨i, hi, hz, hs, hb⟩ := info_parts int_info
  have := run_make (P := Tryz.prog) W 29 3 i (.int .i64 0) Tryz.underlying29 hi hz .i64 .i64 n c (by omega) (by omega) (by rw [hb]; omega) (by omega)
  rw [hs] at this
  simpa [Value.cells] using this
end Go.Proofs.YtckcgaliphpgeaaGreatDoor.Ri

/-
  What New does: contracts that the claimed proofs use.
-/
namespace Go.Proofs.YtckcgaliphpgeaaGreatDoor.Ri
set_option maxRecDepth 100000
open Go.RowKit

theorem new_no (n m : Int) (w : World) (h : n < 0 ∨ 4096 < n ∨ m < 1 ∨ 256 < m) :
    Calls Tryz.prog 78 #[.int .i64 n, .int .i64 m] w fun e w' => e = .returned (.tuple #[.pointer none, .int .i64 11]) ∧ w = w' := by
  by_cases h1 : n < 0
  · have d1 : decide (n < 0) = true := by simpa using h1
    go_enter Tryz.func78, Tryz.ntmps78
    go_wp2
    go_ret2
    exact ⟨rfl, rfl⟩
  · have d1 : decide (n < 0) = false := by simpa using h1
    by_cases h2 : 4096 < n
    · have d2 : decide (4096 < n) = true := by simpa using h2
      go_enter Tryz.func78, Tryz.ntmps78
      go_wp2
      go_ret2
      exact ⟨rfl, rfl⟩
    · have d2 : decide (4096 < n) = false := by simpa using h2
      by_cases h3 : m < 1
      · have d3 : decide (m < 1) = true := by simpa using h3
        go_enter Tryz.func78, Tryz.ntmps78
        go_wp2
        go_ret2
        exact ⟨rfl, rfl⟩
      · have d3 : decide (m < 1) = false := by simpa using h3
        have h4 : 256 < m := by omega
        have d4 : decide (256 < m) = true := by simpa using h4
        go_enter Tryz.func78, Tryz.ntmps78
        go_wp2
        go_ret2
        exact ⟨rfl, rfl⟩
/-! ### Five new blocks -/
theorem five (w : World) (o1 o2 o3 o4 o5 : Obj) : (((((w.alloc o1).alloc o2).alloc o3).alloc o4).alloc o5).drew.heap[w.heap.size]? = some o1 ∧ (((((w.alloc o1).alloc o2).alloc o3).alloc o4).alloc o5).drew.heap[w.heap.size + 1]? = some o2 ∧
    (((((w.alloc o1).alloc o2).alloc o3).alloc o4).alloc o5).drew.heap[w.heap.size + 1 + 1]? = some o3 ∧ (((((w.alloc o1).alloc o2).alloc o3).alloc o4).alloc o5).drew.heap[w.heap.size + 1 + 1 + 1]? = some o4 ∧
    (((((w.alloc o1).alloc o2).alloc o3).alloc o4).alloc o5).drew.heap[w.heap.size + 1 + 1 + 1 + 1]? = some o5 := by
  have s1 : (w.alloc o1).heap.size = w.heap.size + 1 := World.size_alloc ..
  have s2 : ((w.alloc o1).alloc o2).heap.size = w.heap.size + 1 + 1 := by rw [World.size_alloc, s1]
  have s3 : (((w.alloc o1).alloc o2).alloc o3).heap.size = w.heap.size + 1 + 1 + 1 := by rw [World.size_alloc, s2]
  have s4 : ((((w.alloc o1).alloc o2).alloc o3).alloc o4).heap.size = w.heap.size + 1 + 1 + 1 + 1 := by rw [World.size_alloc, s3]
  refine ⟨?_, ?_, ?_, ?_, ?_⟩
  · show (((((w.alloc o1).alloc o2).alloc o3).alloc o4).alloc o5).heap[w.heap.size]? = some o1
    rw [Below.heap_alloc _ _ _ (by omega), Below.heap_alloc _ _ _ (by omega), Below.heap_alloc _ _ _ (by omega), Below.heap_alloc _ _ _ (by omega), heap_alloc_new]
  · show (((((w.alloc o1).alloc o2).alloc o3).alloc o4).alloc o5).heap[w.heap.size + 1]? = some o2
    rw [Below.heap_alloc _ _ _ (by omega), Below.heap_alloc _ _ _ (by omega), Below.heap_alloc _ _ _ (by omega), ← s1, heap_alloc_new]
  · show (((((w.alloc o1).alloc o2).alloc o3).alloc o4).alloc o5).heap[w.heap.size + 1 + 1]? = some o3
    rw [Below.heap_alloc _ _ _ (by omega), Below.heap_alloc _ _ _ (by omega), ← s2, heap_alloc_new]
  · show (((((w.alloc o1).alloc o2).alloc o3).alloc o4).alloc o5).heap[w.heap.size + 1 + 1 + 1]? = some o4
    rw [Below.heap_alloc _ _ _ (by omega), ← s3, heap_alloc_new]
  · show (((((w.alloc o1).alloc o2).alloc o3).alloc o4).alloc o5).heap[w.heap.size + 1 + 1 + 1 + 1]? = some o5
    rw [← s4, heap_alloc_new]
theorem row_of {w : World} {g n : Nat} (h : w.heap[g]? = some (.cells (madeCells #[.int .i64 0] n) 3)) : Row w g n (fun _ => 0) := by
  refine ⟨List.replicate n (.int .i64 0), ?_, fun i hi => by rw [List.getElem?_replicate, if_pos hi]⟩
  unfold Blk
  rw [h]
  congr 2
  apply Array.ext'
  rw [toList_madeCells_one]
theorem four_full {S a b c d : Nat} (h1 : a ≠ b ∧ a ≠ c ∧ a ≠ d ∧ b ≠ c ∧ b ≠ d ∧ c ≠ d) (h2 : S ≤ a ∧ S ≤ b ∧ S ≤ c ∧ S ≤ d) (h3 : a < S + 4 ∧ b < S + 4 ∧ c < S + 4 ∧ d < S + 4) :
    ∀ k, S ≤ k → k < S + 5 → k = S + 1 + 1 + 1 + 1 ∨ k = a ∨ k = b ∨ k = c ∨ k = d := by
  intro k k1 k2
  have pa : a = S ∨ a = S + 1 ∨ a = S + 2 ∨ a = S + 3 := by omega
  have pb : b = S ∨ b = S + 1 ∨ b = S + 2 ∨ b = S + 3 := by omega
  rcases pa with rfl | rfl | rfl | rfl <;> rcases pb with rfl | rfl | rfl | rfl <;> omega
/-- What New has made ahead of its loops. -/
def Made (w : World) (n m : Nat) (s : Value) (wx : World) : Prop := ∃ p : Pl, s = .pointer (some ⟨p.q, 0, none⟩) ∧ p.n = n ∧ p.m = m ∧ p.lo = w.heap.size ∧ RM wx p (fun _ => 0) (fun _ => 0) (fun _ => 0) (fun _ => 0) ∧ Below w.heap.size w wx
theorem made_of (w : World) (n m a b c d : Nat) (o1 o2 o3 o4 : Obj) (W : World) (hn : n ≤ 4096) (hm : m ≤ 256)
    (hW : (((((w.alloc o1).alloc o2).alloc o3).alloc o4).alloc (.cells #[.slice (some ⟨a, 0, none⟩) n n, .slice (some ⟨b, 0, none⟩) m m, .slice (some ⟨c, 0, none⟩) (n + m) (n + m), .slice (some ⟨d, 0, none⟩) (n + m) (n + m)] 181)).drew = W)
    (ha : W.heap[a]? = some (.cells (madeCells #[.int .i64 0] n) 3)) (hb : W.heap[b]? = some (.cells (madeCells #[.int .i64 0] m) 3))
    (hc : W.heap[c]? = some (.cells (madeCells #[.int .i64 0] (n + m)) 3)) (hd : W.heap[d]? = some (.cells (madeCells #[.int .i64 0] (n + m)) 3))
    (h1 : a ≠ b ∧ a ≠ c ∧ a ≠ d ∧ b ≠ c ∧ b ≠ d ∧ c ≠ d) (h2 : w.heap.size ≤ a ∧ w.heap.size ≤ b ∧ w.heap.size ≤ c ∧ w.heap.size ≤ d) (h3 : a < w.heap.size + 4 ∧ b < w.heap.size + 4 ∧ c < w.heap.size + 4 ∧ d < w.heap.size + 4) :
    Made w n m (.pointer (some ⟨w.heap.size + 1 + 1 + 1 + 1, 0, none⟩)) W := by
  have hq := (five w o1 o2 o3 o4 (.cells #[.slice (some ⟨a, 0, none⟩) n n, .slice (some ⟨b, 0, none⟩) m m, .slice (some ⟨c, 0, none⟩) (n + m) (n + m), .slice (some ⟨d, 0, none⟩) (n + m) (n + m)] 181)).2.2.2.2
  have hbel : Below w.heap.size w (((((w.alloc o1).alloc o2).alloc o3).alloc o4).alloc (.cells #[.slice (some ⟨a, 0, none⟩) n n, .slice (some ⟨b, 0, none⟩) m m, .slice (some ⟨c, 0, none⟩) (n + m) (n + m), .slice (some ⟨d, 0, none⟩) (n + m) (n + m)] 181)).drew :=
    (up_alloc (up_alloc (up_alloc (up_alloc (up_alloc (Below.refl _ _) _) _) _) _) _).drew
  rw [hW] at hq hbel
  have hqb : Blk W (w.heap.size + 1 + 1 + 1 + 1) [.slice (some ⟨a, 0, none⟩) n n, .slice (some ⟨b, 0, none⟩) m m, .slice (some ⟨c, 0, none⟩) (n + m) (n + m), .slice (some ⟨d, 0, none⟩) (n + m) (n + m)] 181 := hq
  have hlt := hqb.lt
  refine ⟨⟨w.heap.size, w.heap.size + 5, w.heap.size + 1 + 1 + 1 + 1, a, b, c, d, n, m, n + m, n + m, n, m⟩, rfl, rfl, rfl, rfl, ⟨?_, by show w.heap.size + 5 ≤ _; omega, hqb.cell, hqb.cell, hqb.cell, hqb.cell, row_of ha, row_of hb, row_of hc, row_of hd, ⟨_, hqb⟩⟩, hbel⟩
  constructor <;> dsimp only
  all_goals first
    | omega
    | exact four_full h1 h2 h3
set_option maxHeartbeats 4000000 in
theorem new_yes (n m : Nat) (hn : n ≤ 4096) (hm1 : 1 ≤ m) (hm : m ≤ 256) (w : World) :
    Calls Tryz.prog 78 #[.int .i64 (n : Int), .int .i64 (m : Int)] w fun e w' => ∃ p : Pl, e = .returned (.tuple #[.pointer (some ⟨p.q, 0, none⟩), .int .i64 0]) ∧ p.n = n ∧ p.m = m ∧ p.lo = w.heap.size ∧ Ring w' p (fun _ => []) ∧ Below w.heap.size w w' := by
  have mk1 := make_ints n n (by omega) (by omega)
  have mk2 := make_ints m m (by omega) (by omega)
  have mk3 := make_ints (n + m) (n + m) (by omega) (by omega)
  simp only [Int.natCast_add] at mk3
  have d1 : decide ((n : Int) < 0) = false := by simp
  have d2 : decide ((4096 : Int) < (n : Int)) = false := by simp; omega
  have d3 : decide ((m : Int) < 1) = false := by simp; omega
  have d4 : decide ((256 : Int) < (m : Int)) = false := by simp; omega
  go_enter Tryz.func78, Tryz.ntmps78
  go_upto_region 3 with fail
  go_cut [6] (fun s6 wx => Made w n m s6 wx)
  case first =>
    go_region
    all_goals (go_wp2_with fail; go_meet)
    all_goals refine made_of w n m _ _ _ _ _ _ _ _ _ hn hm rfl ?_ ?_ ?_ ?_ (by omega) (by omega) (by omega)
    all_goals first | exact (five w _ _ _ _ _).1 | exact (five w _ _ _ _ _).2.1 | exact (five w _ _ _ _ _).2.2.1 | exact (five w _ _ _ _ _).2.2.2.1
  case rest =>
  obtain ⟨p, rfl, hpn, hpm, hplo, hrm, hbel⟩ := hcut
  have HR := Lib.hid hrm
  have HBe := Lib.hid hbel
  have g0 := hrm.s0
  rw [hpn] at g0
  have HPN := Lib.hid hpn
  have HPM := Lib.hid hpm
  have HLO := Lib.hid hplo
  clear mk1 mk2 mk3 hrm hbel hpn hpm hplo d1 d2 d3 d4
  go_wp2_with fail
  clear g0
  go_loopw [43] (fun i wr => ∃ (k : Nat) (inn : Nat → Int), k ≤ n ∧ i = .int .i64 k ∧ RM wr p inn (fun _ => 0) (fun _ => 0) (fun _ => 0) ∧ (∀ x, x < k → inn x = -1) ∧ Below w.heap.size w wr) (fun i _ => n - (intOf i).toNat)
  case atStart => exact ⟨0, _, by omega, rfl, HR.out, fun x hx => by omega, HBe.out⟩
  case round =>
    obtain ⟨k, inn, hk, rfl, hrm, hneg, hbel⟩ := hrel
    have HR1 := Lib.hid hrm
    have HB1 := Lib.hid hbel
    have HN := Lib.hid hneg
    clear hneg hbel HR HBe
    by_cases hlt : k < n
    · have g0 := hrm.s0
      rw [HPN.out] at g0
      have hkp : k < p.n := by rw [HPN.out]; exact hlt
      have c0 := hrm.r0.cell hkp
      have f0 := hrm.r0.frozen k
      have oqa := hrm.ok.qa
      have b1 : (0 : Int) ≤ (k : Int) := by omega
      have b2 : (k : Int) < (n : Int) := by omega
      clear hrm
      go_wp2
      go_roundw
      case rel =>
        refine ⟨k + 1, up inn k (-1), by omega, by go_num, HR1.out.set0 hkp (-1), fun x hx => ?_, HB1.out.setCell (p := ⟨p.a, k, none⟩) (by have := HR1.out.ok.a1.1; rw [HLO.out] at this; exact this) _⟩
        by_cases e : x = k
        · subst e; rw [up_at]
        · rw [up_far e]; exact HN.out x (by omega)
      case measure => simp [intOf]; omega
    · obtain rfl : k = n := by omega
      have g1 := hrm.s1
      rw [HPM.out] at g1
      clear hrm
      go_wp2_with fail
      clear g1
      go_loopw [58] (fun i wr => ∃ (j : Nat) (nx pv : Nat → Nat), j ≤ m ∧ i = .int .i64 j ∧ RM wr p inn (fun _ => 0) nx pv ∧ (∀ i, i < j → nx (p.n + i) = p.n + i ∧ pv (p.n + i) = p.n + i) ∧ Below w.heap.size w wr) (fun i _ => m - (intOf i).toNat)
      case atStart => exact ⟨0, _, _, by omega, rfl, HR1.out, fun x hx => by omega, HB1.out⟩
      case round =>
        obtain ⟨j, nx, pv, hj, rfl, hrm, hself, hbel⟩ := hrel
        have HR2 := Lib.hid hrm
        have HB2 := Lib.hid hbel
        have HS := Lib.hid hself
        clear hself hbel HR1 HB1
        by_cases hlt : j < m
        · have hjN : p.n + j < p.n + p.m := by have := HPM.out; omega
          have g2 := hrm.s2
          have g3 := hrm.s3
          have c2 := hrm.r2.cell hjN
          have c3 := hrm.r3.cell hjN
          have f2 := hrm.r2.frozen (p.n + j)
          have f3 := hrm.r3.frozen (p.n + j)
          have oqc := hrm.ok.qc
          have oqd := hrm.ok.qd
          have ocd := hrm.ok.cd'
          have HK := Lib.hid (knot_any p.q p.a p.n p.ca j wr hrm.s0 hrm.ok.n1 (by omega))
          have HJN := Lib.hid hjN
          obtain ⟨z, hz⟩ : ∃ z, p.n + j = z := ⟨_, rfl⟩
          obtain ⟨N, hN⟩ : ∃ N, p.n + p.m = N := ⟨_, rfl⟩
          rw [hz] at c2 c3 f2 f3 HK hjN
          rw [hN] at g2 g3 hjN
          have HZ := Lib.hid hz
          have b1 : (0 : Int) ≤ (z : Int) := by omega
          have b2 : (z : Int) < (N : Int) := by omega
          clear hrm hz hN
          go_wp2_with (go_at_call 119; refine HK.out.mono ?_; rintro e w' ⟨rfl, rfl⟩)
          go_region
          go_wp2
          go_roundw
          case rel =>
            have hlo := HLO.out
            have h1 := (HR2.out.set2 HJN.out (p.n + j)).set3 HJN.out (p.n + j)
            rw [HZ.out] at h1
            refine ⟨j + 1, up nx z z, up pv z z, by omega, by go_num, h1.drew, fun i hi => ?_, ((HB2.out.setCell (p := ⟨p.c, z, none⟩) (by rw [← hlo]; exact HR2.out.ok.c1.1) _).setCell (p := ⟨p.d, z, none⟩) (by rw [← hlo]; exact HR2.out.ok.d1.1) _).drew⟩
            by_cases e : i = j
            · subst e; rw [HZ.out, up_at, up_at]; exact ⟨rfl, rfl⟩
            · have : p.n + i ≠ z := by have := HZ.out; omega
              rw [up_far this, up_far this]; exact HS.out i (by omega)
          case measure => simp [intOf]; omega
        · obtain rfl : j = m := by omega
          clear hrm
          go_wp2
          go_ret2
          exact ⟨p, rfl, HPN.out, HPM.out, HLO.out, ⟨_, _, _, _, HR2.out, Fits.none _ _ _ _ _ _ (fun x hx => HN.out x (by rw [← HPN.out]; exact hx)) (fun _ _ => rfl) (fun i hi => HS.out i (by rw [← HPM.out]; exact hi))⟩, HB2.out⟩
end Go.Proofs.YtckcgaliphpgeaaGreatDoor.Ri

/-
  What All and SameInts do: contracts that the claimed proofs use.
-/
namespace Go.Proofs.YtckcgaliphpgeaaGreatDoor.Ri
set_option maxRecDepth 100000
open Go.RowKit

/-! ### Lists of numbers -/
def irow (xs : List Nat) : List Value := xs.map fun (x : Nat) => Value.int .i64 (x : Int)
theorem irow_length (xs : List Nat) : (irow xs).length = xs.length := by simp [irow]
theorem irow_get {xs : List Nat} {i : Nat} (h : i < xs.length) : (irow xs)[i]? = some (.int .i64 ((xs.getD i 0 : Nat) : Int)) := by
  rw [irow, List.getElem?_map, List.getD_eq_getElem?_getD, List.getElem?_eq_getElem h]; rfl
/-- A list of numbers: of its address something is said only where there is an element. -/
def IA (B : Nat) (w : World) (A : Option Addr) (xs : List Nat) : Prop :=
  0 < xs.length → ∃ b o, A = some ⟨b, o, none⟩ ∧ b < B ∧ ∀ j, j < xs.length → w.cell? ⟨b, o + j, none⟩ = some (.int .i64 ((xs.getD j 0 : Nat) : Int))
theorem IA.below {B : Nat} {w w' : World} {A : Option Addr} {xs : List Nat} (h : IA B w A xs) (hb : Below B w w') : IA B w' A xs := fun hp => by
  obtain ⟨b, o, e, hg, hc⟩ := h hp
  exact ⟨b, o, e, hg, fun i hi => (hb.cell (p := ⟨b, o + i, none⟩) hg).trans (hc i hi)⟩
theorem IA.more {B B' : Nat} {w : World} {A : Option Addr} {xs : List Nat} (h : IA B w A xs) (hb : B ≤ B') : IA B' w A xs := fun hp => by
  obtain ⟨b, o, e, hg, hc⟩ := h hp
  exact ⟨b, o, e, by omega, hc⟩
theorem own_base {w : World} {base : Nat} {e : TypeId} {size : Nat} {v : Value} {n : Nat} {xs : List Value} (h : w.ownsRow base e size v n xs) : ∀ g, v.ownBlock = some g → base ≤ g := by
  intro g hg
  rcases h.2 with ⟨rfl, _⟩ | ⟨g', cap, cur, rfl, hb, _⟩
  · simp [Value.ownBlock] at hg
  · simp [Value.ownBlock] at hg; omega
theorem own_lt {w : World} {base g cap n : Nat} {e : TypeId} {size : Nat} {xs : List Value} (h : w.ownsRow base e size (.slice (some ⟨g, 0, none⟩) n cap) n xs) : g < w.heap.size := by
  rcases h.2 with ⟨h', _⟩ | ⟨g', cap', cur, h', _, hb, _⟩
  · simp at h'
  · simp only [Value.slice.injEq, Option.some.injEq, Addr.mk.injEq, and_true, true_and] at h'
    obtain ⟨rfl, rfl⟩ := h'
    exact (Array.getElem?_eq_some_iff.1 hb).1
theorem own_ints {w : World} {base g cap n : Nat} {xs : List Nat} (h : w.ownsRow base 3 1 (.slice (some ⟨g, 0, none⟩) n cap) n (irow xs)) (hn : xs.length = n) : IA w.heap.size w (some ⟨g, 0, none⟩) xs := fun _ =>
  ⟨g, 0, rfl, own_lt h, fun j hj => by rw [Nat.zero_add, h.cellAt j (by omega)]; exact irow_get hj⟩
theorem new_at {w : World} {o : Obj} {n : Nat} (h : w.heap.size = n) : (w.alloc o).heap[n]? = some o := by subst h; exact heap_alloc_new w o
theorem append_int {W : World} {ops : Array Oper} {rest : List Oper} {o : Oper} {a : Act} {Q : Exit → Act → World → Prop} (hgd : o.guard = none) (s x : Operand)
    (ho : o.op = .call { callee := .builtin .append, args := #[s, x], argTypes := #[29, 29] }) (base g cap n m : Nat) (l : List Nat) (p : Nat)
    (hs : a.eval s = .slice (some ⟨g, 0, none⟩) m cap) (hown : W.ownsRow base 3 1 (.slice (some ⟨g, 0, none⟩) m cap) m (irow l))
    (hx : a.eval x = .slice (some ⟨n, 0, none⟩) 1 1) (hn : W.heap[n]? = some (.cells #[.int .i64 (p : Int)] 3 (0, 0))) (hl : m ≤ 1048577) (hbase : base ≤ W.heap.size)
    (h : ∀ g' cap' w', Hid (w'.ownsRow base 3 1 (.slice (some ⟨g', 0, none⟩) (m + 1) cap') (m + 1) (irow (l ++ [p]))) → Hid (Below base W w') →
      wpList Tryz.prog ops Q rest (a.put o.dst (.slice (some ⟨g', 0, none⟩) (m + 1) cap')) w') : wpList Tryz.prog ops Q (o :: rest) a W := by
  obtain ⟨i0, hi0, hz0, hz1, hz2⟩ := info_parts int_info
  refine wpList_append_lies W hgd s x 29 ho base 3 i0 _ 1 8 Tryz.underlying29 hi0 hz0 hz1 hz2 rfl (by omega) _ m (irow l) hs hown ⟨n, 0, none⟩ 1 1 [.int .i64 (p : Int)] hx rfl
    (World.news_of_block (cs := #[.int .i64 (p : Int)]) (t := 3) (fr := (0, 0)) hn) (by simp [Value.oneCell']) (by omega) (by simp only [maxLen]; omega) (by omega) hbase _ rfl ?_
  intro g' cap' w' h2 h3 _ _
  refine h g' cap' w' ?_ ((Below.refl _ W).grown h3 hbase (own_base hown))
  show World.ownsRow _ _ _ _ _ _ _
  rw [irow, List.map_append]
  exact h2

/-- What is left behind a call that answers a list of numbers of its own. -/
def Gave (xs : List Nat) (w : World) (e : Ending) (w' : World) : Prop :=
  ∃ g cap, e = .returned (.slice (some ⟨g, 0, none⟩) xs.length cap) ∧ w.heap.size ≤ g ∧ IA w'.heap.size w' (some ⟨g, 0, none⟩) xs ∧ Below w.heap.size w w'

/-! ### SameInts -/
theorem same_unlike (A B : Option Addr) (n m c d : Nat) (w : World) (h : n ≠ m) :
    Calls Tryz.prog 26 #[.slice A n c, .slice B m d] w fun e w' => e = .returned (.bool false) ∧ Drawn w w' := by
  have hd : ((n : Int) != (m : Int)) = true := by simp; omega
  go_enter Tryz.func26, Tryz.ntmps26
  go_wp2
  go_ret
  exact ⟨rfl, Drawn.refl _⟩
theorem same_none (A B : Option Addr) (c d : Nat) (w : World) :
    Calls Tryz.prog 26 #[.slice A 0 c, .slice B 0 d] w fun e w' => e = .returned (.bool true) ∧ Drawn w w' := by
  go_enter Tryz.func26, Tryz.ntmps26
  go_wp2
  go_loop [5] (fun i => i = .int .i64 0) (fun _ => 0)
  case atStart => rfl
  case round =>
    obtain rfl := hrel
    go_wp2
    go_ret
    exact ⟨rfl, Drawn.refl _⟩
theorem same_some (b o b2 o2 : Nat) (xs ys : List Nat) (c d n : Nat) (w : World) (h1 : ∀ j, j < n → w.cell? ⟨b, o + j, none⟩ = some (.int .i64 ((xs.getD j 0 : Nat) : Int)))
    (h2 : ∀ j, j < n → w.cell? ⟨b2, o2 + j, none⟩ = some (.int .i64 ((ys.getD j 0 : Nat) : Int))) (hl : n ≤ 4096) (hx : xs.length = n) (hy : ys.length = n) :
    Calls Tryz.prog 26 #[.slice (some ⟨b, o, none⟩) n c, .slice (some ⟨b2, o2, none⟩) n d] w fun e w' => e = .returned (.bool (decide (xs = ys))) ∧ Drawn w w' := by
  have H1 := Lib.hid h1
  have H2 := Lib.hid h2
  have HX := Lib.hid hx
  have HY := Lib.hid hy
  have hd : ((n : Int) != (n : Int)) = false := by simp
  clear h1 h2 hx hy
  go_enter Tryz.func26, Tryz.ntmps26
  go_wp2
  go_loopw [5] (fun i wr => ∃ k : Nat, k ≤ n ∧ i = .int .i64 k ∧ (∀ j, j < k → xs.getD j 0 = ys.getD j 0) ∧ Drawn w wr) (fun i _ => n - (intOf i).toNat)
  case atStart => exact ⟨0, by omega, rfl, fun j hj => by omega, Drawn.refl _⟩
  case round =>
    obtain ⟨k, hk, rfl, heq, hdr⟩ := hrel
    have HD := Lib.hid hdr
    have HE := Lib.hid heq
    clear hdr heq
    by_cases hlt : k < n
    · have q1 := HD.out.cell (H1.out k hlt)
      have q2 := HD.out.cell (H2.out k hlt)
      have k1 : (0 : Int) ≤ (k : Int) := by omega
      have k2 : (k : Int) < (n : Int) := by omega
      obtain ⟨x, hx⟩ : ∃ x, xs.getD k 0 = x := ⟨_, rfl⟩
      obtain ⟨z, hz⟩ : ∃ z, ys.getD k 0 = z := ⟨_, rfl⟩
      rw [hx] at q1
      rw [hz] at q2
      have HXX := Lib.hid hx
      have HZ := Lib.hid hz
      clear hx hz
      by_cases e : x = z
      · have hxx : ((x : Int) != (z : Int)) = false := by rw [e]; simp
        have HEE := Lib.hid e
        clear e
        go_wp2_with fail
        go_quiet (fail)
        go_wp2
        go_roundw
        case rel =>
          refine ⟨k + 1, by omega, by go_num, fun j hj => ?_, HD.out.on _⟩
          by_cases ej : j = k
          · rw [ej, HXX.out, HZ.out, HEE.out]
          · exact HE.out j (by omega)
        case measure => simp [intOf]; omega
      · have hxx : ((x : Int) != (z : Int)) = true := by simp; omega
        have HEE := Lib.hid e
        clear e
        go_wp2_with fail
        go_quiet (fail)
        go_wp2
        go_ret
        exact ⟨ret_b (by symm; rw [decide_eq_false_iff_not]; intro e; apply HEE.out; rw [← HXX.out, ← HZ.out, e]), HD.out.on _⟩
    · obtain rfl : k = n := by omega
      go_wp2
      go_ret
      refine ⟨ret_b ?_, HD.out⟩
      symm; rw [decide_eq_true_eq]
      apply List.ext_getElem?
      intro j
      by_cases hj : j < k
      · have := HE.out j hj
        rw [List.getD_eq_getElem?_getD, List.getD_eq_getElem?_getD, List.getElem?_eq_getElem (by rw [HX.out]; exact hj), List.getElem?_eq_getElem (by rw [HY.out]; exact hj)] at this
        rw [List.getElem?_eq_getElem (by rw [HX.out]; exact hj), List.getElem?_eq_getElem (by rw [HY.out]; exact hj)]
        exact congrArg some this
      · rw [List.getElem?_eq_none (by rw [HX.out]; omega), List.getElem?_eq_none (by rw [HY.out]; omega)]
theorem same_any (A B : Option Addr) (xs ys : List Nat) (c d N N2 : Nat) (w : World) (h1 : IA N w A xs) (h2 : IA N2 w B ys) (hl : xs.length ≤ 4096) :
    Calls Tryz.prog 26 #[.slice A xs.length c, .slice B ys.length d] w fun e w' => e = .returned (.bool (decide (xs = ys))) ∧ Drawn w w' := by
  by_cases hxy : xs.length = ys.length
  · rcases Nat.eq_zero_or_pos xs.length with h0 | hp
    · have e1 := List.eq_nil_of_length_eq_zero h0
      have e2 := List.eq_nil_of_length_eq_zero (hxy ▸ h0)
      subst e1 e2
      exact same_none A B c d w
    · obtain ⟨b, o, rfl, _, q1⟩ := h1 hp
      obtain ⟨b2, o2, rfl, _, q2⟩ := h2 (by omega)
      rw [← hxy] at q2 ⊢
      exact same_some b o b2 o2 xs ys c d _ w q1 q2 hl rfl hxy.symm
  · have e : decide (xs = ys) = false := by rw [decide_eq_false_iff_not]; intro e; exact hxy (by rw [e])
    rw [e]
    exact same_unlike A B _ _ c d w hxy
theorem own_made (w : World) (n : Nat) (hn : n ≤ 8192) : (w.alloc (.cells (madeCells #[.int .i64 0] n) 3)).ownsRow w.heap.size 3 1 (.slice (some ⟨w.heap.size, 0, none⟩) 0 n) 0 (irow []) :=
  World.ownsRow_made w _ n (Nat.le_refl _) (by simp only [maxLen]; omega) (by rw [← Array.length_toList, toList_madeCells_one]; simp)
/-- A slice's length. -/
def lenOf : Value → Nat
  | .slice _ n _ => n
  | _ => 0

/-! ### All -/
theorem step_r {w : World} {p : Pl} {L : Nat → List Nat} {i : Int} {x : Nat} {A C : List Nat} (h : Ring w p L) (hl : of L i = A ++ x :: C) :
    Calls Tryz.prog 134 #[.pointer (some ⟨p.q, 0, none⟩), .int .i64 (x : Int)] w fun e w' => e = .returned (.int .i64 (hd C)) ∧ w = w' := by
  obtain ⟨inn, cs, nx, pv, h, hf⟩ := h
  unfold of at hl
  split at hl
  · have hx : x ∈ L i.toNat := by rw [hl]; simp
    have hi := hf.good.list_lt hx
    have hX := hf.good.lt _ _ hx
    have hb := behind_r h (k := x) (by omega)
    rwa [hf.step hi hl, bh_head hf.good (fun y hy => by rw [hl]; simp [hy])] at hb
  · simp at hl
theorem of_len {n m : Nat} {L : Nat → List Nat} (h : Good n m L) (i : Int) : (of L i).length ≤ n := by
  unfold of; split
  · exact h.len _
  · simp
theorem cut_at {l : List Nat} {k : Nat} (h : k < l.length) : l = l.take k ++ l[k] :: l.drop (k + 1) := by
  rw [← List.drop_eq_getElem_cons h, List.take_append_drop]
theorem all_r {w : World} {p : Pl} {L : Nat → List Nat} {i : Int} (h : Ring w p L) : Calls Tryz.prog 89 #[.pointer (some ⟨p.q, 0, none⟩), .int .i64 i] w (Gave (of L i) w) := by
  have HLen := Lib.hid (len_r (i := i) h)
  have hle : (of L i).length ≤ 4096 := by have := of_len h.good i; have := h.ok.n1; omega
  have HF : Hid (∀ W, Below w.heap.size w W → Calls Tryz.prog 113 #[.pointer (some ⟨p.q, 0, none⟩), .int .i64 i] W fun e w' => e = .returned (.int .i64 (hd (of L i))) ∧ W = w') := fun W hW => first_r (h.below hW)
  have HS : Hid (∀ W k, Below w.heap.size w W → (hk : k < (of L i).length) → Calls Tryz.prog 134 #[.pointer (some ⟨p.q, 0, none⟩), .int .i64 (((of L i)[k] : Nat) : Int)] W fun e w' => e = .returned (.int .i64 (hd ((of L i).drop (k + 1)))) ∧ W = w') := fun W k hW hk => step_r (h.below hW) (cut_at hk)
  clear h
  generalize of L i = l at HLen hle HF HS ⊢
  obtain ⟨n, hn⟩ : ∃ n, l.length = n := ⟨_, rfl⟩
  have HN := Lib.hid hn
  rw [hn] at HLen hle
  have hmk := make_ints 0 n (by omega) (by omega)
  simp only [Int.natCast_zero] at hmk
  have hst : (w.alloc (.cells (madeCells #[.int .i64 0] n) 3)).ownsRow w.heap.size 3 1 (.slice (some ⟨w.heap.size, 0, none⟩) 0 n) 0 (irow []) := own_made w n (by omega)
  have HO0 := Lib.hid hst
  clear hn hst
  go_enter Tryz.func89, Tryz.ntmps89
  go_wp2_with fail
  refine HLen.out.mono ?_
  rintro e w1 ⟨rfl, rfl⟩
  go_wp2_with fail
  refine (HF.out _ (up_alloc (Below.refl _ _) _)).mono ?_
  rintro e w1 ⟨rfl, rfl⟩
  clear hmk
  go_wp2_with fail
  go_loopw [5, 6] (fun o x wr => ∃ k g cap : Nat, k ≤ n ∧ o = .slice (some ⟨g, 0, none⟩) k cap ∧ x = .int .i64 (hd (l.drop k)) ∧ wr.ownsRow w.heap.size 3 1 (.slice (some ⟨g, 0, none⟩) k cap) k (irow (l.take k)) ∧ Below w.heap.size w wr) (fun o _ _ => n - lenOf o)
  case atStart => exact ⟨0, w.heap.size, n, by omega, rfl, rfl, HO0.out, up_alloc (Below.refl _ _) _⟩
  case round =>
    obtain ⟨k, g, cap, hk, rfl, rfl, hown, hbel⟩ := hrel
    have HO := Lib.hid hown
    have HB := Lib.hid hbel
    have hsz := hbel.size
    clear hown hbel HO0
    by_cases hlt : k < n
    · have hkl : k < l.length := by rw [HN.out]; exact hlt
      have e1 : hd (l.drop k) = (l[k] : Int) := by rw [List.drop_eq_getElem_cons hkl]; rfl
      have e2 : l.take (k + 1) = l.take k ++ [l[k]] := by rw [List.take_succ_eq_append_getElem hkl]
      have HE2 := Lib.hid e2
      rw [e1]
      have HC : Hid (∀ W, Below w.heap.size w W → Calls Tryz.prog 134 #[.pointer (some ⟨p.q, 0, none⟩), .int .i64 ((l[k] : Nat) : Int)] W fun e w' => e = .returned (.int .i64 (hd (l.drop (k + 1)))) ∧ W = w') := fun W hW => HS.out W k hW hkl
      obtain ⟨x, hx⟩ : ∃ x, l[k] = x := ⟨_, rfl⟩
      rw [hx] at HE2 HC ⊢
      have hne : ((x : Int) != -1) = true := by simp
      clear e1 e2 hx hkl
      go_wp2_with (first
        | (at_builtin; refine append_int (by rfl) _ _ (by rfl) w.heap.size g cap wr.heap.size k (l.take k) x (by rfl) (HO.out.alloc _) (by rfl) (new_at (by simp)) (by omega) (by simp; omega) ?_; intro g' cap' w' HO2 HB2)
        | (go_at_call 134; refine (HC.out _ ((up_alloc HB.out _).trans HB2.out)).mono ?_; rintro e w2 ⟨rfl, rfl⟩))
      go_roundw
      case rel => exact ⟨k + 1, g', cap', by omega, rfl, rfl, by rw [HE2.out]; exact HO2.out, (up_alloc HB.out _).trans HB2.out⟩
      case measure => simp [lenOf]; omega
    · obtain rfl : k = n := by omega
      have e1 : l.drop k = [] := List.drop_eq_nil_of_le (by rw [HN.out]; omega)
      have hgb : w.heap.size ≤ g := own_base HO.out g rfl
      rw [e1]
      have e2 : hd [] = -1 := rfl
      rw [e2]
      clear e1 e2
      go_wp2
      go_ret
      have e3 : l.take k = l := List.take_of_length_le (by rw [HN.out]; omega)
      rw [e3] at HO
      exact ⟨g, cap, by rw [HN.out]; rfl, hgb, own_ints HO.out HN.out, HB.out⟩
end Go.Proofs.YtckcgaliphpgeaaGreatDoor.Ri
