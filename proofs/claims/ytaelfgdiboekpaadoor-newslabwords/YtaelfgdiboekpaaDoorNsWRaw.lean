/-
  Words and their numbers, there and back: the walk of a statement, its end.
-/
import Derived.Test.YtaelfgdiboekpaaDoorNsWords
import Derived.IntWalk
namespace Go.Proofs.YtaelfgdiboekpaaDoor.Ns
set_option maxRecDepth 100000
open Go.RowKit
open Ce (u ldW Mem)
open Bi (Blk Drawn hasB hasB_iff hasB_not up_alloc up_drew up_trans i64_in ret_i ret_b grown_refl grown_trans grown_below)

theorem mk_int : (440005911841 : Int) = ((MK : Nat) : Int) := rfl
theorem raws (x : BitVec 64) : u x / 16777216 = (unM x : Int) ∧ bits .and .u64 (u x / 256) 255 = (unS x : Int) ∧ bits .and .u64 (u x) 255 = (unN x : Int) ∧ bits .and .u64 (u x / 65536) 255 = (unC x : Int) := by
  refine ⟨?_, ?_, ?_, ?_⟩
  · unfold Ce.u unM; omega
  · have e : u x / (256 : Int) = u (x >>> 8) := Ce.shr_u x 8
    rw [e, and255, BitVec.toNat_ushiftRight, Nat.shiftRight_eq_div_pow]; rfl
  · rw [and255]; rfl
  · have e : u x / (65536 : Int) = u (x >>> 16) := Ce.shr_u x 16
    rw [e, and255, BitVec.toNat_ushiftRight, Nat.shiftRight_eq_div_pow]; rfl
theorem w64_nat (k : Nat) (h : k < 256) : wrap64 (k : Int) = (k : Int) := IntWalk.wrap64_in _ ⟨by omega, by omega⟩
theorem w64_pred (k : Nat) (h : k < 256) : wrap64 ((k : Int) - 1) = (k : Int) - 1 := IntWalk.wrap64_in _ ⟨by omega, by omega⟩
theorem rword_raw3 (x : BitVec 64) (hm : unM x = MK) (h : unOk x = false) (V : World) : Calls Tryd.prog 11 #[.int .i64 (wrap64 (bits .and .u64 (u x / 256) 255)), .int .i64 (wrap64 (wrap64 (bits .and .u64 (u x) 255) - 1)), .int .i64 (wrap64 (bits .and .u64 (u x / 65536) 255))] V fun e w' => e = .returned (.tuple #[.int .u64 0, .bool false]) ∧ V = w' := by
  obtain ⟨_, e1, e2, e3⟩ := raws x
  obtain ⟨l1, l2, l3, _⟩ := un_lt x
  have k1 := ok_un x hm
  rw [h] at k1
  rw [e1, e2, e3, w64_nat _ l1, w64_nat _ l2, w64_nat _ l3, w64_pred _ l2]
  exact rword_no _ _ _ V k1
end Go.Proofs.YtaelfgdiboekpaaDoor.Ns
