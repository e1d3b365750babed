/-
  What First does: a contract that the claimed proofs use.
-/
import Derived.Test.YtiemgeflkmbfoaaDoorBiCount
namespace Go.Proofs.YtiemgeflkmbfoaaDoor.Bi
set_option maxRecDepth 100000
open Go.RowKit

/-! ### The least bit -/
def firstI (l : List Bool) (set : Bool) : Nat → Nat → Int
  | _, 0 => -1
  | k, d + 1 => if bt l k = set then (k : Int) else firstI l set (k + 1) d
/-- The least bit from one on that is set, or clear; -1, if there is none. -/
def first (l : List Bool) (from' : Nat) (set : Bool) : Int := firstI l set from' (l.length - from')
def IsFirst (l : List Bool) (f : Nat) (set : Bool) (r : Int) : Prop :=
  (r = -1 ∧ ∀ k, f ≤ k → k < l.length → bt l k ≠ set) ∨ (∃ k : Nat, r = k ∧ f ≤ k ∧ k < l.length ∧ bt l k = set ∧ ∀ j, f ≤ j → j < k → bt l j ≠ set)
theorem isFirst_I (l : List Bool) (set : Bool) : ∀ (d f : Nat), l.length - f = d → IsFirst l f set (firstI l set f d)
  | 0, f, h => Or.inl ⟨rfl, fun k h1 h2 => by omega⟩
  | d + 1, f, h => by
    rw [firstI]
    split
    · rename_i e
      exact Or.inr ⟨f, rfl, Nat.le_refl _, by omega, e, fun j h1 h2 => by omega⟩
    · rename_i e
      rcases isFirst_I l set d (f + 1) (by omega) with ⟨h1, h2⟩ | ⟨k, h1, h2, h3, h4, h5⟩
      · refine Or.inl ⟨h1, fun k hk hl => ?_⟩
        by_cases ek : k = f
        · rw [ek]; exact e
        · exact h2 k (by omega) hl
      · refine Or.inr ⟨k, h1, by omega, h3, h4, fun j hj hl => ?_⟩
        by_cases ek : j = f
        · rw [ek]; exact e
        · exact h5 j (by omega) hl
theorem isFirst_first (l : List Bool) (f : Nat) (set : Bool) : IsFirst l f set (first l f set) := isFirst_I l set _ f rfl
theorem isFirst_one {l : List Bool} {f : Nat} {set : Bool} {r s : Int} (h : IsFirst l f set r) (k : IsFirst l f set s) : r = s := by
  rcases h with ⟨rfl, a⟩ | ⟨i, rfl, a1, a2, a3, a4⟩
  · rcases k with ⟨rfl, _⟩ | ⟨j, rfl, b1, b2, b3, _⟩
    · rfl
    · exact absurd b3 (a j b1 b2)
  · rcases k with ⟨rfl, b⟩ | ⟨j, rfl, b1, b2, b3, b4⟩
    · exact absurd a3 (b i a1 a2)
    · rcases Nat.lt_trichotomy i j with h | h | h
      · exact absurd a3 (b4 i a1 h)
      · rw [h]
      · exact absurd b3 (a4 j b1 h)

theorem low_mask (m : Nat) (hm : m < 64) (j : Nat) : (1#64 <<< m - 1#64).getLsbD j = decide (j < m) := by
  have e : (1#64 <<< m - 1#64).toNat = 2 ^ m - 1 := by
    have h1 : (1#64 <<< m).toNat = 2 ^ m := by
      rw [BitVec.toNat_shiftLeft, Nat.shiftLeft_eq, show (1#64).toNat = 1 from rfl, Nat.one_mul]
      exact Nat.mod_eq_of_lt (Nat.pow_lt_pow_right (by decide) hm)
    have h2 : 2 ^ m < 2 ^ 64 := Nat.pow_lt_pow_right (by decide) hm
    have h3 : 0 < 2 ^ m := Nat.two_pow_pos m
    rw [BitVec.toNat_sub, h1, show (1#64).toNat = 1 from rfl]
    omega
  rw [BitVec.getLsbD, e, Nat.testBit_two_pow_sub_one]

def seek (x : BitVec 64) (set : Bool) : BitVec 64 := if set then x else ~~~ x
theorem not_u (x : BitVec 64) : bits .xor .u64 IntKind.u64.max (u x) = u (~~~ x) := by
  have e : IntKind.u64.max = (((BitVec.allOnes 64).toNat : Nat) : Int) := by decide +kernel
  unfold u
  rw [e, u64_xor_nat _ _ (BitVec.isLt _) x.isLt, ← BitVec.toNat_xor, BitVec.allOnes_xor]
theorem sought_any (q g L k : Nat) (x : BitVec 64) (set : Bool) (w : World) (hs : w.cell? ⟨q, 1, none⟩ = some (.slice (some ⟨g, 0, none⟩) L L)) (hx : w.cell? ⟨g, k, none⟩ = some (.int .u64 (u x))) (hk : k < L) :
    Calls Tryd.prog 60 #[.pointer (some ⟨q, 0, none⟩), .int .i64 (k : Int), .bool set] w fun e w' => e = .returned (.int .u64 (u (seek x set))) ∧ w = w' := by
  cases set
  · go_enter Tryd.func60, Tryd.ntmps60
    go_wp2
    go_ret
    exact ⟨ret_u (not_u x), rfl⟩
  · go_enter Tryd.func60, Tryd.ntmps60
    go_wp2
    go_ret
    exact ⟨rfl, rfl⟩
theorem within_any (q n : Nat) (k : Int) (w : World) (hc : w.cell? ⟨q, 0, none⟩ = some (.int .i64 (n : Int))) :
    Calls Tryd.prog 61 #[.pointer (some ⟨q, 0, none⟩), .int .i64 k] w fun e w' => e = .returned (.int .i64 (if hasB n k then k else -1)) ∧ w = w' := by
  cases h : hasB n k
  · go_enter Tryd.func61, Tryd.ntmps61
    go_wp2_with (go_at_call 56; refine (has_any q n _ _ hc).mono ?_; rw [h]; rintro e w' ⟨rfl, rfl⟩)
    go_ret
    exact ⟨rfl, rfl⟩
  · go_enter Tryd.func61, Tryd.ntmps61
    go_wp2_with (go_at_call 56; refine (has_any q n _ _ hc).mono ?_; rw [h]; rintro e w' ⟨rfl, rfl⟩)
    go_ret
    exact ⟨rfl, rfl⟩
theorem seek_bit {l : List Bool} {ws : List (BitVec 64)} (h : Fits l ws) (k j : Nat) (set : Bool) (hj : j < 64) : (seek (ws.getD k 0#64) set).getLsbD j = (bt l (64 * k + j) == set) := by
  have := h.2 k j hj
  unfold seek
  cases set
  · rw [if_neg (by simp), BitVec.getLsbD_not, this]; simp [hj, bt]
  · rw [if_pos rfl, this]; simp [bt]
/-- The bits that are looked for in a word. -/
theorem word_bit {l : List Bool} {ws : List (BitVec 64)} (h : Fits l ws) (k F j : Nat) (set : Bool) (hj : j < 64) (B : BitVec 64) (hB : ∀ j, j < 64 → B.getLsbD j = decide (64 * k + j < F)) :
    (seek (ws.getD k 0#64) set &&& ~~~ B).getLsbD j = ((bt l (64 * k + j) == set) && decide (F ≤ 64 * k + j)) := by
  rw [BitVec.getLsbD_and, seek_bit h k j set hj, BitVec.getLsbD_not, hB j hj]
  have e : (!decide (64 * k + j < F)) = decide (F ≤ 64 * k + j) := by rw [← decide_not]; simp
  rw [e]; simp [hj]
def Mask (k F : Nat) (B : BitVec 64) : Prop := ∀ j, j < 64 → B.getLsbD j = decide (64 * k + j < F)
def NoneTo (l : List Bool) (F k : Nat) (set : Bool) : Prop := ∀ j, F ≤ j → j < k → j < l.length → bt l j ≠ set
theorem first_no (q n : Nat) (f : Int) (set : Bool) (w : World) (hc : w.cell? ⟨q, 0, none⟩ = some (.int .i64 (n : Int))) (hf : (n : Int) ≤ f) :
    Calls Tryd.prog 49 #[.pointer (some ⟨q, 0, none⟩), .int .i64 f, .bool set] w fun e w' => e = .returned (.int .i64 (-1)) ∧ w = w' := by
  have hno : hasB n f = false := hasB_not.2 (by omega)
  go_enter Tryd.func49, Tryd.ntmps49
  go_wp2_with (go_at_call 56; refine (has_any q n _ _ hc).mono ?_; rw [hno]; rintro e w' ⟨rfl, rfl⟩)
  go_ret
  exact ⟨rfl, rfl⟩
theorem first_none (q n : Nat) (f : Int) (set : Bool) (w : World) (hc : w.cell? ⟨q, 0, none⟩ = some (.int .i64 (n : Int))) (hf : f < 0) (hn : n = 0) :
    Calls Tryd.prog 49 #[.pointer (some ⟨q, 0, none⟩), .int .i64 f, .bool set] w fun e w' => e = .returned (.int .i64 (-1)) ∧ w = w' := by
  have hno : hasB n 0 = false := hasB_not.2 (by omega)
  go_enter Tryd.func49, Tryd.ntmps49
  go_wp2_with (go_at_call 56; refine (has_any q n _ _ hc).mono ?_; rw [hno]; rintro e w' ⟨rfl, rfl⟩)
  go_ret
  exact ⟨rfl, rfl⟩
theorem first_yes (q g F : Nat) (l : List Bool) (ws : List (BitVec 64)) (set : Bool) (w : World) (hm : Bits w q g l ws) (hT : Tab w) (hF : F < l.length) :
    Calls Tryd.prog 49 #[.pointer (some ⟨q, 0, none⟩), .int .i64 (F : Int), .bool set] w fun e w' => e = .returned (.int .i64 (first l F set)) ∧ w = w' := by
  have hs := hm.words
  have hc := hm.n
  have hy : hasB l.length (F : Int) = true := hasB_iff.2 (by omega)
  have HX : Hid (∀ i, i < ws.length → w.cell? ⟨g, i, none⟩ = some (.int .u64 (u (ws.getD i 0#64)))) := fun i hi => hm.word hi
  have hL := hm.many.2.1
  have hn := hm.2.2.2.1
  have HLn := Lib.hid hm.2.2.1.1
  have HF := Lib.hid hm.2.2.1
  have HT := Lib.hid hT
  clear hm hT
  obtain ⟨L, hl⟩ : ∃ L, ws.length = L := ⟨_, rfl⟩
  have HL := Lib.hid hl
  rw [hl] at hs HX hL HLn
  obtain ⟨n, hl2⟩ : ∃ n, l.length = n := ⟨_, rfl⟩
  have HN := Lib.hid hl2
  rw [hl2] at hc hy hn hF HLn
  have hFL : F / 64 ≤ L := by have := HLn.out; omega
  clear hl hl2
  have hbit := bit_any F (by omega) w
  have HB := Lib.hid hbit
  clear hbit
  go_enter Tryd.func49, Tryd.ntmps49
  go_wp2_with (first | (go_at_call 56; refine (has_any q n _ _ hc).mono ?_; rw [hy]; rintro e w' ⟨rfl, rfl⟩) | (go_at_call 58; refine HB.out.mono ?_; rintro e w' ⟨rfl, rfl⟩))
  go_loop [7, 8] (fun c i => ∃ (k : Nat) (B : BitVec 64), F / 64 ≤ k ∧ k ≤ L ∧ i = .int .i64 k ∧ c = .int .u64 (u B) ∧ Mask k F B ∧ NoneTo l F (64 * k) set) (fun _ i => L - (intOf i).toNat)
  case atStart =>
    refine ⟨F / 64, 1#64 <<< (F % 64) - 1#64, by omega, hFL, by go_num, ?_, fun j hj => ?_, fun j h1 h2 h3 => by omega⟩
    · rw [show (1 : Int) = u 1#64 from rfl, sub_u]
    · rw [low_mask _ (by omega)]; congr 1; rw [eq_iff_iff]; omega
  case round =>
    obtain ⟨k, B, hk0, hk, rfl, rfl, hB, hnone⟩ := hrel
    have HBm := Lib.hid hB
    have HNo := Lib.hid hnone
    clear hB hnone
    by_cases hlt : k < L
    · have q1 := HX.out k hlt
      have hwb : ∀ j, j < 64 → _ := fun j hj => word_bit HF.out k F j set hj B HBm.out
      obtain ⟨x, hx⟩ : ∃ x, ws.getD k 0#64 = x := ⟨_, rfl⟩
      rw [hx] at q1 hwb
      have hso := sought_any q g L k x set w hs q1 hlt
      obtain ⟨S, hS⟩ : ∃ S, seek x set = S := ⟨_, rfl⟩
      rw [hS] at hso hwb
      have HSO := Lib.hid hso
      have hR := andNot_u S B
      obtain ⟨V, hV⟩ : ∃ V, S &&& ~~~ B = V := ⟨_, rfl⟩
      rw [hV] at hR hwb
      have HWB := Lib.hid hwb
      clear hx hso hS hV hwb
      by_cases hv : V = 0#64
      · have hne : (u V != 0) = false := by rw [hv]; rfl
        have HV := Lib.hid hv
        clear hv
        go_wp2_with (go_at_call 60; refine HSO.out.mono ?_; rintro e w' ⟨rfl, rfl⟩)
        go_round
        case rel =>
          refine ⟨k + 1, 0#64, by omega, by omega, by go_num, rfl, fun j hj => ?_, fun j h1 h2 h3 => ?_⟩
          · rw [BitVec.getLsbD_zero]; symm; rw [decide_eq_false_iff_not]; omega
          · by_cases h4 : j < 64 * k
            · exact HNo.out j h1 h4 h3
            · have := HWB.out (j - 64 * k) (by omega)
              rw [HV.out, BitVec.getLsbD_zero, show 64 * k + (j - 64 * k) = j by omega, decide_eq_true h1, Bool.and_true] at this
              exact fun e => by rw [e] at this; simp at this
        case measure => simp [intOf]; omega
      · have hne : (u V != 0) = true := by rw [show (0 : Int) = u 0#64 from rfl, u_bne]; simpa using hv
        have htz := tz_any V w hv HT.out
        have hlow := low_is V hv
        obtain ⟨m, hm', hcb⟩ := low_bit V hv
        obtain ⟨c, hcc⟩ : ∃ c, Lib.ctz 64 V.toNat = c := ⟨_, rfl⟩
        rw [hcc] at htz hlow hcb
        have HTZ := Lib.hid htz
        have HLO := Lib.hid hlow
        have hwi := within_any q n ((k : Int) * 64 + (c : Int)) w hc
        obtain ⟨r, hr⟩ : ∃ r, (if hasB n ((k : Int) * 64 + (c : Int)) = true then (k : Int) * 64 + (c : Int) else -1) = r := ⟨_, rfl⟩
        rw [hr] at hwi
        have HWI := Lib.hid hwi
        have HR := Lib.hid hr
        clear hv htz hlow hm' hcc hwi hr
        go_wp2_with (first | (go_at_call 60; refine HSO.out.mono ?_; rintro e w' ⟨rfl, rfl⟩) | (go_at_call 62; refine HTZ.out.mono ?_; rintro e w' ⟨rfl, rfl⟩) | (go_at_call 61; refine HWI.out.mono ?_; rintro e w' ⟨rfl, rfl⟩))
        go_ret
        refine ⟨ret_i (isFirst_one (l := l) (f := F) (set := set) ?_ (isFirst_first l F set)), rfl⟩
        have low : ∀ j, F ≤ j → j < 64 * k + c → j < l.length → bt l j ≠ set := fun j h1 h2 h3 => by
          by_cases h4 : j < 64 * k
          · exact HNo.out j h1 h4 h3
          · have := HWB.out (j - 64 * k) (by omega)
            rw [HLO.out.2 _ (by omega), show 64 * k + (j - 64 * k) = j by omega, decide_eq_true h1, Bool.and_true] at this
            exact fun e => by rw [e] at this; simp at this
        have hit := HWB.out c hcb
        rw [HLO.out.1] at hit
        simp only [Bool.true_eq, Bool.and_eq_true, beq_iff_eq, decide_eq_true_eq] at hit
        rw [← HR.out]
        by_cases hin : 64 * k + c < n
        · rw [if_pos (hasB_iff.2 (by omega))]
          exact Or.inr ⟨64 * k + c, by omega, hit.2, by rw [HN.out]; exact hin, hit.1, fun j h1 h2 => low j h1 h2 (by rw [HN.out]; omega)⟩
        · rw [if_neg (by rw [hasB_not.2 (by omega)]; simp)]
          exact Or.inl ⟨rfl, fun j h1 h2 => low j h1 (by rw [HN.out] at h2; omega) h2⟩
    · obtain rfl : k = L := by omega
      go_wp2
      go_ret
      refine ⟨ret_i (isFirst_one (l := l) (f := F) (set := set) (Or.inl ⟨rfl, fun j h1 h2 => HNo.out j h1 ?_ h2⟩) (isFirst_first l F set)), rfl⟩
      have := HLn.out; rw [HN.out] at h2; omega
theorem first_below (q g : Nat) (f : Int) (l : List Bool) (ws : List (BitVec 64)) (set : Bool) (w : World) (hm : Bits w q g l ws) (hT : Tab w) (hF : 0 < l.length) (hf : f < 0) :
    Calls Tryd.prog 49 #[.pointer (some ⟨q, 0, none⟩), .int .i64 f, .bool set] w fun e w' => e = .returned (.int .i64 (first l 0 set)) ∧ w = w' := by
  have hs := hm.words
  have hc := hm.n
  have hy : hasB l.length 0 = true := hasB_iff.2 (by omega)
  have HX : Hid (∀ i, i < ws.length → w.cell? ⟨g, i, none⟩ = some (.int .u64 (u (ws.getD i 0#64)))) := fun i hi => hm.word hi
  have hL := hm.many.2.1
  have hn := hm.2.2.2.1
  have HLn := Lib.hid hm.2.2.1.1
  have HF := Lib.hid hm.2.2.1
  have HT := Lib.hid hT
  clear hm hT
  obtain ⟨L, hl⟩ : ∃ L, ws.length = L := ⟨_, rfl⟩
  have HL := Lib.hid hl
  rw [hl] at hs HX hL HLn
  obtain ⟨n, hl2⟩ : ∃ n, l.length = n := ⟨_, rfl⟩
  have HN := Lib.hid hl2
  rw [hl2] at hc hy hn hF HLn
  have hFL : 0 / 64 ≤ L := by omega
  clear hl hl2
  have hbit : Calls Tryd.prog 58 #[.int .i64 0] w _ := bit_any 0 (by omega) w
  have HB := Lib.hid hbit
  clear hbit
  go_enter Tryd.func49, Tryd.ntmps49
  go_wp2_with (first | (go_at_call 56; refine (has_any q n _ _ hc).mono ?_; rw [hy]; rintro e w' ⟨rfl, rfl⟩) | (go_at_call 58; refine HB.out.mono ?_; rintro e w' ⟨rfl, rfl⟩))
  go_loop [7, 8] (fun c i => ∃ (k : Nat) (B : BitVec 64), 0 / 64 ≤ k ∧ k ≤ L ∧ i = .int .i64 k ∧ c = .int .u64 (u B) ∧ Mask k 0 B ∧ NoneTo l 0 (64 * k) set) (fun _ i => L - (intOf i).toNat)
  case atStart =>
    refine ⟨0 / 64, 1#64 <<< (0 % 64) - 1#64, by omega, hFL, by go_num, ?_, fun j hj => ?_, fun j h1 h2 h3 => by omega⟩
    · rw [show (1 : Int) = u 1#64 from rfl, sub_u]; rfl
    · rw [low_mask _ (by omega)]; congr 1; rw [eq_iff_iff]; omega
  case round =>
    obtain ⟨k, B, hk0, hk, rfl, rfl, hB, hnone⟩ := hrel
    have HBm := Lib.hid hB
    have HNo := Lib.hid hnone
    clear hB hnone
    by_cases hlt : k < L
    · have q1 := HX.out k hlt
      have hwb : ∀ j, j < 64 → _ := fun j hj => word_bit HF.out k 0 j set hj B HBm.out
      obtain ⟨x, hx⟩ : ∃ x, ws.getD k 0#64 = x := ⟨_, rfl⟩
      rw [hx] at q1 hwb
      have hso := sought_any q g L k x set w hs q1 hlt
      obtain ⟨S, hS⟩ : ∃ S, seek x set = S := ⟨_, rfl⟩
      rw [hS] at hso hwb
      have HSO := Lib.hid hso
      have hR := andNot_u S B
      obtain ⟨V, hV⟩ : ∃ V, S &&& ~~~ B = V := ⟨_, rfl⟩
      rw [hV] at hR hwb
      have HWB := Lib.hid hwb
      clear hx hso hS hV hwb
      by_cases hv : V = 0#64
      · have hne : (u V != 0) = false := by rw [hv]; rfl
        have HV := Lib.hid hv
        clear hv
        go_wp2_with (go_at_call 60; refine HSO.out.mono ?_; rintro e w' ⟨rfl, rfl⟩)
        go_round
        case rel =>
          refine ⟨k + 1, 0#64, by omega, by omega, by go_num, rfl, fun j hj => ?_, fun j h1 h2 h3 => ?_⟩
          · rw [BitVec.getLsbD_zero]; symm; rw [decide_eq_false_iff_not]; omega
          · by_cases h4 : j < 64 * k
            · exact HNo.out j h1 h4 h3
            · have := HWB.out (j - 64 * k) (by omega)
              rw [HV.out, BitVec.getLsbD_zero, show 64 * k + (j - 64 * k) = j by omega, decide_eq_true h1, Bool.and_true] at this
              exact fun e => by rw [e] at this; simp at this
        case measure => simp [intOf]; omega
      · have hne : (u V != 0) = true := by rw [show (0 : Int) = u 0#64 from rfl, u_bne]; simpa using hv
        have htz := tz_any V w hv HT.out
        have hlow := low_is V hv
        obtain ⟨m, hm', hcb⟩ := low_bit V hv
        obtain ⟨c, hcc⟩ : ∃ c, Lib.ctz 64 V.toNat = c := ⟨_, rfl⟩
        rw [hcc] at htz hlow hcb
        have HTZ := Lib.hid htz
        have HLO := Lib.hid hlow
        have hwi := within_any q n ((k : Int) * 64 + (c : Int)) w hc
        obtain ⟨r, hr⟩ : ∃ r, (if hasB n ((k : Int) * 64 + (c : Int)) = true then (k : Int) * 64 + (c : Int) else -1) = r := ⟨_, rfl⟩
        rw [hr] at hwi
        have HWI := Lib.hid hwi
        have HR := Lib.hid hr
        clear hv htz hlow hm' hcc hwi hr
        go_wp2_with (first | (go_at_call 60; refine HSO.out.mono ?_; rintro e w' ⟨rfl, rfl⟩) | (go_at_call 62; refine HTZ.out.mono ?_; rintro e w' ⟨rfl, rfl⟩) | (go_at_call 61; refine HWI.out.mono ?_; rintro e w' ⟨rfl, rfl⟩))
        go_ret
        refine ⟨ret_i (isFirst_one (l := l) (f := 0) (set := set) ?_ (isFirst_first l 0 set)), rfl⟩
        have low : ∀ j, 0 ≤ j → j < 64 * k + c → j < l.length → bt l j ≠ set := fun j h1 h2 h3 => by
          by_cases h4 : j < 64 * k
          · exact HNo.out j h1 h4 h3
          · have := HWB.out (j - 64 * k) (by omega)
            rw [HLO.out.2 _ (by omega), show 64 * k + (j - 64 * k) = j by omega, decide_eq_true h1, Bool.and_true] at this
            exact fun e => by rw [e] at this; simp at this
        have hit := HWB.out c hcb
        rw [HLO.out.1] at hit
        simp only [Bool.true_eq, Bool.and_eq_true, beq_iff_eq, decide_eq_true_eq] at hit
        rw [← HR.out]
        by_cases hin : 64 * k + c < n
        · rw [if_pos (hasB_iff.2 (by omega))]
          exact Or.inr ⟨64 * k + c, by omega, hit.2, by rw [HN.out]; exact hin, hit.1, fun j h1 h2 => low j h1 h2 (by rw [HN.out]; omega)⟩
        · rw [if_neg (by rw [hasB_not.2 (by omega)]; simp)]
          exact Or.inl ⟨rfl, fun j h1 h2 => low j h1 (by rw [HN.out] at h2; omega) h2⟩
    · obtain rfl : k = L := by omega
      go_wp2
      go_ret
      refine ⟨ret_i (isFirst_one (l := l) (f := 0) (set := set) (Or.inl ⟨rfl, fun j h1 h2 => HNo.out j h1 ?_ h2⟩) (isFirst_first l 0 set)), rfl⟩
      have := HLn.out; rw [HN.out] at h2; omega
/-- First. -/
theorem first_any (q g : Nat) (f : Int) (l : List Bool) (ws : List (BitVec 64)) (set : Bool) (w : World) (hm : Bits w q g l ws) (hT : Tab w) :
    Calls Tryd.prog 49 #[.pointer (some ⟨q, 0, none⟩), .int .i64 f, .bool set] w fun e w' => e = .returned (.int .i64 (first l f.toNat set)) ∧ w = w' := by
  by_cases hn : (l.length : Int) ≤ f
  · have := first_no q l.length f set w hm.n hn
    have e : first l f.toNat set = -1 := isFirst_one (isFirst_first _ _ _) (Or.inl ⟨rfl, fun k h1 h2 => by omega⟩)
    rw [e]; exact this
  · by_cases h0 : 0 ≤ f
    · obtain ⟨F, rfl⟩ := Int.eq_ofNat_of_zero_le h0
      exact first_yes q g F l ws set w hm hT (by omega)
    · have e : f.toNat = 0 := by omega
      rw [e]
      by_cases hl : 0 < l.length
      · exact first_below q g f l ws set w hm hT hl (by omega)
      · exact first_none q l.length f set w hm.n (by omega) (by omega) |>.mono fun e w' h => by
          have e : first l 0 set = -1 := isFirst_one (isFirst_first _ _ _) (Or.inl ⟨rfl, fun k h1 h2 => by omega⟩)
          rw [e]; exact h
end Go.Proofs.YtiemgeflkmbfoaaDoor.Bi
