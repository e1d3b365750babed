/-
  What the small functions do: contracts that the claimed proofs use.
-/
import Derived.Test.YtaelfgdiboekpaaDoorBiMem
import Derived.Laws.Bits128
namespace Go.Proofs.YtaelfgdiboekpaaDoor.Bi
set_option maxRecDepth 100000
open Go.RowKit

/-- Is there such a bit? -/
def hasB (n : Nat) (k : Int) : Bool := decide (0 ≤ k ∧ k < n)
theorem hasB_iff {n : Nat} {k : Int} : hasB n k = true ↔ 0 ≤ k ∧ k < n := by simp [hasB]
theorem hasB_not {n : Nat} {k : Int} : hasB n k = false ↔ ¬ (0 ≤ k ∧ k < n) := by simp only [hasB, decide_eq_false_iff_not]
theorem has_any (q n : Nat) (k : Int) (w : World) (hc : w.cell? ⟨q, 0, none⟩ = some (.int .i64 (n : Int))) :
    Calls Tryd.prog 89 #[.pointer (some ⟨q, 0, none⟩), .int .i64 k] w fun e w' => e = .returned (.bool (hasB n k)) ∧ w = w' := by
  by_cases h0 : 0 ≤ k
  · go_enter Tryd.func89, Tryd.ntmps89
    go_wp2
    go_ret
    exact ⟨ret_b (by unfold hasB; rw [decide_eq_decide]; omega), rfl⟩
  · have hd : decide (0 ≤ k) = false := by simpa using h0
    go_enter Tryd.func89, Tryd.ntmps89
    go_wp2
    go_ret
    exact ⟨ret_b (by unfold hasB; symm; rw [decide_eq_false_iff_not]; omega), rfl⟩
theorem bit_raw (k : Nat) : IntKind.u64.wrap (2 ^ k) = u (1#64 <<< k) := by
  have := shl_u 1#64 k
  rwa [show u 1#64 = 1 from rfl, Int.one_mul] at this
theorem bit_any (k : Nat) (hk : k ≤ 4096) (w : World) :
    Calls Tryd.prog 90 #[.int .i64 (k : Int)] w fun e w' => e = .returned (.int .u64 (u (1#64 <<< (k % 64)))) ∧ w = w' := by
  go_enter Tryd.func90, Tryd.ntmps90
  go_wp2
  go_ret
  exact ⟨ret_u (bit_raw _), rfl⟩

/-! ### The library's two -/
theorem tz_key (x a : Nat) (hx : x < 18446744073709551616) (hx0 : x ≠ 0) (hlow : x &&& (18446744073709551616 - x) = a) :
    IntKind.u64.wrap (bits BinOp.and IntKind.u64 (x : Int) (IntKind.u64.wrap (-(x : Int))) * 285870213051353865) / 288230376151711744 = ((a * 285870213051353865 % 18446744073709551616 / 288230376151711744 : Nat) : Int) := by
  have e1 : IntKind.u64.wrap (-(x : Int)) = ((18446744073709551616 - x : Nat) : Int) := by rw [IntKind.wrap_u64]; omega
  rw [e1, u64_and_nat x _ hx (by omega), hlow, IntKind.wrap_u64]
  omega
theorem ones_raw1 (n : Nat) (hn : n < 18446744073709551616) :
    IntKind.u64.wrap (bits .and .u64 ((n : Int) / 2) 6148914691236517205 + bits .and .u64 (n : Int) 6148914691236517205) = ((((n / 2) &&& 6148914691236517205) + (n &&& 6148914691236517205) : Nat) : Int) := by
  have e1 : (n : Int) / 2 = ((n / 2 : Nat) : Int) := by omega
  have h1 : (n / 2) &&& 6148914691236517205 ≤ 6148914691236517205 := Nat.and_le_right
  have h2 : n &&& 6148914691236517205 ≤ 6148914691236517205 := Nat.and_le_right
  have k1 := u64_and_nat (n / 2) 6148914691236517205 (by omega) (by omega)
  have k2 := u64_and_nat n 6148914691236517205 hn (by omega)
  rw [e1, show (6148914691236517205 : Int) = ((6148914691236517205 : Nat) : Int) from rfl, k1, k2, IntKind.wrap_u64]
  omega
theorem ones_raw2 (n : Nat) (hn : n < 18446744073709551616) :
    IntKind.u64.wrap (bits .and .u64 ((n : Int) / 4) 3689348814741910323 + bits .and .u64 (n : Int) 3689348814741910323) = ((((n / 4) &&& 3689348814741910323) + (n &&& 3689348814741910323) : Nat) : Int) := by
  have e1 : (n : Int) / 4 = ((n / 4 : Nat) : Int) := by omega
  have h1 : (n / 4) &&& 3689348814741910323 ≤ 3689348814741910323 := Nat.and_le_right
  have h2 : n &&& 3689348814741910323 ≤ 3689348814741910323 := Nat.and_le_right
  have k1 := u64_and_nat (n / 4) 3689348814741910323 (by omega) (by omega)
  have k2 := u64_and_nat n 3689348814741910323 hn (by omega)
  rw [e1, show (3689348814741910323 : Int) = ((3689348814741910323 : Nat) : Int) from rfl, k1, k2, IntKind.wrap_u64]
  omega
theorem ones_raw3 (n : Nat) (hn : n ≤ 7378697629483820646) :
    bits .and .u64 (IntKind.u64.wrap ((n : Int) / 16 + (n : Int))) 1085102592571150095 = (((n / 16 + n) &&& 1085102592571150095 : Nat) : Int) := by
  have e1 : IntKind.u64.wrap ((n : Int) / 16 + (n : Int)) = ((n / 16 + n : Nat) : Int) := by rw [IntKind.wrap_u64]; omega
  have k1 := u64_and_nat (n / 16 + n) 1085102592571150095 (by omega) (by omega)
  rw [e1, show (1085102592571150095 : Int) = ((1085102592571150095 : Nat) : Int) from rfl, k1]
theorem ones_raw4 (c s : Nat) (h : End4 c s) :
    bits .and .i64 (wrap64 (IntKind.u64.wrap (IntKind.u64.wrap (IntKind.u64.wrap ((c : Int) + (c : Int) / 256) + IntKind.u64.wrap ((c : Int) + (c : Int) / 256) / 65536) + IntKind.u64.wrap (IntKind.u64.wrap ((c : Int) + (c : Int) / 256) + IntKind.u64.wrap ((c : Int) + (c : Int) / 256) / 65536) / 4294967296))) 127 = (s : Int) := by
  obtain ⟨_, h1, h2, h3, h4⟩ := h
  have e1 : IntKind.u64.wrap ((c : Int) + (c : Int) / 256) = ((c + c / 256 : Nat) : Int) := by rw [IntKind.wrap_u64]; omega
  rw [e1]
  clear e1
  generalize c + c / 256 = d at *
  have e2 : IntKind.u64.wrap ((d : Int) + (d : Int) / 65536) = ((d + d / 65536 : Nat) : Int) := by rw [IntKind.wrap_u64]; omega
  rw [e2]
  clear e2
  generalize d + d / 65536 = e at *
  have e3 : IntKind.u64.wrap ((e : Int) + (e : Int) / 4294967296) = ((e + e / 4294967296 : Nat) : Int) := by rw [IntKind.wrap_u64]; omega
  rw [e3]
  clear e3
  generalize e + e / 4294967296 = f at *
  have e4 : wrap64 ((f : Nat) : Int) = (f : Int) := by unfold wrap64; omega
  rw [e4, i64_and127]
  omega
end Go.Proofs.YtaelfgdiboekpaaDoor.Bi
