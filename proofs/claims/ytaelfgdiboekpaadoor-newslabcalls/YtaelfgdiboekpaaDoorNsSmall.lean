/-
  Sizes, and words and their numbers: contracts that the claimed proofs use.
-/
import Derived.Test.YtaelfgdiboekpaaDoorNsPack
import Derived.Test.YtaelfgdiboekpaaDoorTbA
import Derived.Test.YtaelfgdiboekpaaDoorBiA
import Derived.Test.YtaelfgdiboekpaaDoorCeRows2
import Derived.Deep.RegionWith
namespace Go.Proofs.YtaelfgdiboekpaaDoor.Ns
set_option maxRecDepth 100000
open Go.RowKit
open Ce (u ldW)
open Ra (getW putW rightB rightB_iff packGo)
open Bi (Blk up_alloc up_drew up_trans i64_in ret_i ret_b grown_refl grown_trans grown_below)

/-! ### Classes -/
def clsB (c : Int) : Bool := decide (0 ≤ c ∧ c < 12)
theorem clsB_iff {c : Int} : clsB c = true ↔ 0 ≤ c ∧ c < 12 := by simp [clsB]
theorem size_nat : ∀ c, c < 12 → Tb.sz 1 c = (zN c : Int) := by decide +kernel
theorem size_of {c : Nat} (hc : c < 12) : Tb.sizeOf' 1 (c : Int) = (zN c : Int) := by rw [Tb.sizeOf_nat, size_nat c hc]
theorem slots_of {c : Nat} (hc : c < 12) : Tb.slotsOf 1 (c : Int) = (nS c : Int) := by
  have := cls c hc
  rw [Tb.slotsOf_some (by rw [size_of hc]; omega), size_of hc]
  unfold nS; rfl
theorem size_cls (c : Int) : (Tb.sizeOf' 1 c != 0) = clsB c := by
  rw [Bool.eq_iff_iff, clsB_iff, bne_iff_ne]
  rcases Tb.sizeOf_bd 1 c with h | ⟨k, hk, rfl, h, h1, h2⟩
  · rw [h]
    constructor
    · intro e; exact absurd rfl e
    · rintro ⟨h0, h1⟩
      obtain ⟨k, rfl⟩ := Int.eq_ofNat_of_zero_le h0
      have := (cls k (by omega)).1
      rw [size_of (by omega)] at h; omega
  · rw [Tb.cnt_1] at hk; omega
theorem isClass_any (c : Int) (w : World) (hT : Tb.Tab w) : Calls Tryd.prog 53 #[.int .i64 c] w fun e w' => e = .returned (.bool (clsB c)) ∧ w = w' := by
  have H := Lib.hid (Tb.size_any 1 c w hT)
  have E := Lib.hid (size_cls c)
  clear hT
  generalize Tb.sizeOf' 1 c = z at *
  go_enter Tryd.func53, Tryd.ntmps53
  go_wp2_with (go_at_call 77; refine H.out.mono ?_; rintro e w' ⟨rfl, rfl⟩)
  go_ret
  exact ⟨ret_b E.out, rfl⟩
/-- Is there a word of these numbers? -/
def okW (s n c : Int) : Bool := decide (0 ≤ s ∧ s < 128 ∧ -1 ≤ n ∧ n < 128 ∧ 0 ≤ c ∧ c < 12)
theorem okW_iff {s n c : Int} : okW s n c = true ↔ 0 ≤ s ∧ s < 128 ∧ -1 ≤ n ∧ n < 128 ∧ 0 ≤ c ∧ c < 12 := by simp [okW]
theorem okW_not {s n c : Int} (h : ¬ (0 ≤ s ∧ s < 128 ∧ -1 ≤ n ∧ n < 128)) : okW s n c = false := by unfold okW; rw [decide_eq_false_iff_not]; omega
theorem okW_cls {s n c : Int} (h : 0 ≤ s ∧ s < 128 ∧ -1 ≤ n ∧ n < 128) : okW s n c = clsB c := by unfold okW clsB; rw [decide_eq_decide]; omega
theorem isWord_any (s n c : Int) (w : World) (hT : Tb.Tab w) : Calls Tryd.prog 48 #[.int .i64 s, .int .i64 n, .int .i64 c] w fun e w' => e = .returned (.bool (okW s n c)) ∧ w = w' := by
  have HC := Lib.hid (isClass_any c w hT)
  clear hT
  by_cases h0 : 0 ≤ s
  · have d0 : decide (0 ≤ s) = true := by simpa using h0
    by_cases h1 : s < 128
    · have d1 : decide (s < 128) = true := by simpa using h1
      by_cases h2 : -1 ≤ n
      · have d2 : decide (-1 ≤ n) = true := by simpa using h2
        by_cases h3 : n < 128
        · have d3 : decide (n < 128) = true := by simpa using h3
          have E := Lib.hid (okW_cls (c := c) ⟨h0, h1, h2, h3⟩)
          generalize clsB c = z at *
          go_enter Tryd.func48, Tryd.ntmps48
          go_wp2_with (go_at_call 53; refine HC.out.mono ?_; rintro e w' ⟨rfl, rfl⟩)
          go_ret
          exact ⟨ret_b E.out.symm, rfl⟩
        · have d3 : decide (n < 128) = false := by simpa using h3
          have E := Lib.hid (okW_not (s := s) (n := n) (c := c) (by omega))
          clear HC
          go_enter Tryd.func48, Tryd.ntmps48
          go_wp2
          go_ret
          exact ⟨ret_b E.out.symm, rfl⟩
      · have d2 : decide (-1 ≤ n) = false := by simpa using h2
        have E := Lib.hid (okW_not (s := s) (n := n) (c := c) (by omega))
        clear HC
        go_enter Tryd.func48, Tryd.ntmps48
        go_wp2
        go_ret
        exact ⟨ret_b E.out.symm, rfl⟩
    · have d1 : decide (s < 128) = false := by simpa using h1
      have E := Lib.hid (okW_not (s := s) (n := n) (c := c) (by omega))
      clear HC
      go_enter Tryd.func48, Tryd.ntmps48
      go_wp2
      go_ret
      exact ⟨ret_b E.out.symm, rfl⟩
  · have d0 : decide (0 ≤ s) = false := by simpa using h0
    have E := Lib.hid (okW_not (s := s) (n := n) (c := c) (by omega))
    clear HC
    go_enter Tryd.func48, Tryd.ntmps48
    go_wp2
    go_ret
    exact ⟨ret_b E.out.symm, rfl⟩

/-! ### A word's numbers -/
def flV : Value := .agg #[.int .i64 0, .int .i64 8, .int .i64 8, .int .i64 8, .int .i64 16, .int .i64 8, .int .i64 24, .int .i64 40]
theorem layout_any (w : World) : Calls Tryd.prog 49 #[] w fun e w' => e = .returned flV ∧ Below w.heap.size w w' := by
  go_enter Tryd.func49, Tryd.ntmps49
  go_wp2
  exact bodyPost_ret (v := flV) (by simp [results, Tryd.results49, go_sem, flV]) rfl ⟨rfl, up_alloc (Below.refl _ w) _⟩
theorem get_yes' (x : BitVec 64) (s n : Int) (w : World) (hr : rightB s n = true) :
    Calls Tryd.prog 87 #[.int .u64 (u x), .agg #[.int .i64 s, .int .i64 n]] w fun e w' => e = .returned (.tuple #[.int .u64 (u (getW x s.toNat n.toNat)), .bool true]) ∧ Below w.heap.size w w' := Ra.get_yes x s n w hr
theorem value_of (x : BitVec 64) (k s m : Int) (R : Nat) (w : World) (hr : rightB s m = true) (hidx : ∀ w : World, (Instr.index 90 flV (.int .i64 k)).run Tryd.prog w = .ok (.agg #[.int .i64 s, .int .i64 m]) w) (hR : u (getW x s.toNat m.toNat) = (R : Int)) (hb : R < 1099511627776) :
    Calls Tryd.prog 51 #[.int .u64 (u x), .int .i64 k] w fun e w' => e = .returned (.int .i64 (R : Int)) ∧ Below w.heap.size w w' := by
  have HG := Lib.hid (fun w => get_yes' x s m w hr)
  rw [hR] at HG
  have hw := i64_in (R : Int) (by omega) (by omega)
  clear hr hR
  go_enter Tryd.func51, Tryd.ntmps51
  go_wp2_with fail
  refine (layout_any w).mono ?_
  rintro e w1 ⟨rfl, b1⟩
  have B1 := Lib.hid b1
  clear b1
  go_wp2_with fail
  refine (HG.out _).mono ?_
  rintro e w2 ⟨rfl, b2⟩
  have B2 := Lib.hid (up_trans B1.out b2)
  clear b2
  go_wp2
  go_ret
  exact ⟨rfl, B2.out⟩
section
variable (x : BitVec 64) (w : World)
theorem value_next : Calls Tryd.prog 51 #[.int .u64 (u x), .int .i64 0] w fun e w' => e = .returned (.int .i64 (unN x : Int)) ∧ Below w.heap.size w w' :=
  value_of x 0 0 8 (unN x) w (by decide) (fun w => by kernel_rfl) (by rw [show (0 : Int).toNat = 0 from rfl, show (8 : Int).toNat = 8 from rfl, get_is x 0 8 (by omega)]; unfold unN; simp) (by have := un_lt x; omega)
theorem value_slot : Calls Tryd.prog 51 #[.int .u64 (u x), .int .i64 1] w fun e w' => e = .returned (.int .i64 (unS x : Int)) ∧ Below w.heap.size w w' :=
  value_of x 1 8 8 (unS x) w (by decide) (fun w => by kernel_rfl) (by rw [show (8 : Int).toNat = 8 from rfl, get_is x 8 8 (by omega)]; unfold unS; simp) (by have := un_lt x; omega)
theorem value_class : Calls Tryd.prog 51 #[.int .u64 (u x), .int .i64 2] w fun e w' => e = .returned (.int .i64 (unC x : Int)) ∧ Below w.heap.size w w' :=
  value_of x 2 16 8 (unC x) w (by decide) (fun w => by kernel_rfl) (by rw [show (16 : Int).toNat = 16 from rfl, show (8 : Int).toNat = 8 from rfl, get_is x 16 8 (by omega)]; unfold unC; simp) (by have := un_lt x; omega)
theorem value_mark : Calls Tryd.prog 51 #[.int .u64 (u x), .int .i64 3] w fun e w' => e = .returned (.int .i64 (unM x : Int)) ∧ Below w.heap.size w w' :=
  value_of x 3 24 40 (unM x) w (by decide) (fun w => by kernel_rfl) (by
    rw [show (24 : Int).toNat = 24 from rfl, show (40 : Int).toNat = 40 from rfl, get_is x 24 40 (by omega)]
    have h := (un_lt x).2.2.2
    unfold unM at h ⊢
    rw [Nat.mod_eq_of_lt (by simpa using h)]) (un_lt x).2.2.2
end
/-- What Unword answers. -/
def unV (x : BitVec 64) : Value := if unOk x = true then .tuple #[.int .i64 (unS x : Int), .int .i64 ((unN x : Int) - 1), .int .i64 (unC x : Int), .bool true] else .tuple #[.int .i64 0, .int .i64 0, .int .i64 0, .bool false]
theorem ok_un (x : BitVec 64) (h : unM x = MK) : okW (unS x : Int) ((unN x : Int) - 1) (unC x : Int) = unOk x := by
  rw [Bool.eq_iff_iff, okW_iff, unOk_iff]
  constructor
  · rintro ⟨_, h1, _, h3, _, h5⟩; exact ⟨h, by omega, by omega, by omega⟩
  · rintro ⟨_, h1, h2, h3⟩; omega
theorem results_tmp4 {fn : Func} {t u v s : Tmp} (h : fn.results = #[.tmp t, .tmp u, .tmp v, .tmp s]) (tmps : Array Value) (P : Program) (w : World) :
    (results fn tmps).run P w = .ok (.tuple #[tmps.getD t undef, tmps.getD u undef, tmps.getD v undef, tmps.getD s undef]) w := by
  simp [results, h]
theorem unword_any (x : BitVec 64) (w : World) (hT : Tb.Tab w) : Calls Tryd.prog 12 #[.int .u64 (u x)] w fun e w' => e = .returned (unV x) ∧ Below w.heap.size w w' := by
  have HS := Lib.hid (fun w => value_slot x w)
  have HN := Lib.hid (fun w => value_next x w)
  have HC := Lib.hid (fun w => value_class x w)
  have HM := Lib.hid (fun w => value_mark x w)
  have HT := Lib.hid hT
  obtain ⟨l1, l2, l3, l4⟩ := un_lt x
  have HO := Lib.hid (ok_un x)
  unfold unV
  have HK : Hid (unOk x = true → unM x = MK) := fun h => (unOk_iff.1 h).1
  generalize unS x = s at *
  generalize unN x = n at *
  generalize unC x = c at *
  generalize unM x = m at *
  generalize unOk x = o at *
  have hw : IntKind.i64.wrap ((n : Int) - 1) = (n : Int) - 1 := by rw [IntKind.wrap_i64]; omega
  clear hT
  go_enter Tryd.func12, Tryd.ntmps12
  go_wp2_with fail
  refine (HS.out _).mono ?_
  rintro e w1 ⟨rfl, b1⟩
  have B1 := Lib.hid b1
  clear b1
  go_wp2_with fail
  refine (HN.out _).mono ?_
  rintro e w2 ⟨rfl, b2⟩
  have B2 := Lib.hid (up_trans B1.out b2)
  clear b2
  go_wp2_with fail
  refine (HC.out _).mono ?_
  rintro e w3 ⟨rfl, b3⟩
  have B3 := Lib.hid (up_trans B2.out b3)
  clear b3
  go_wp2_with fail
  refine (HM.out _).mono ?_
  rintro e w4 ⟨rfl, b4⟩
  have B4 := Lib.hid (up_trans B3.out b4)
  have HW := Lib.hid (isWord_any (s : Int) ((n : Int) - 1) (c : Int) w4 (HT.out.below B4.out))
  clear b4 HS HN HC HM B1 B2 B3
  by_cases hm : m = MK
  · have d : ((m : Int) != 440005911841) = false := by rw [hm]; decide +kernel
    rw [HO.out hm] at HW
    clear hm HK HO HT
    cases o with
    | true =>
      go_wp2_with (go_at_call 48; refine HW.out.mono ?_; rintro e w' ⟨rfl, rfl⟩)
      (try simp only [Exit.inBlock, Exit.then])
      refine bodyPost_ret (results_tmp4 rfl _ _ _) rfl ?_
      exact ⟨rfl, B4.out⟩
    | false =>
      go_wp2_with (go_at_call 48; refine HW.out.mono ?_; rintro e w' ⟨rfl, rfl⟩)
      (try simp only [Exit.inBlock, Exit.then])
      refine bodyPost_ret (results_tmp4 rfl _ _ _) rfl ?_
      exact ⟨rfl, B4.out⟩
  · have d : ((m : Int) != 440005911841) = true := by
      have : (440005911841 : Int) = ((MK : Nat) : Int) := by decide +kernel
      rw [this, bne_iff_ne]; omega
    obtain rfl : o = false := by cases o with
      | true => exact absurd (HK.out rfl) hm
      | false => rfl
    clear hm HK HO HT HW
    go_wp2_with fail
    (try simp only [Exit.inBlock, Exit.then])
    refine bodyPost_ret (results_tmp4 rfl _ _ _) rfl ?_
    exact ⟨rfl, B4.out⟩
end Go.Proofs.YtaelfgdiboekpaaDoor.Ns
