/-
  What Load, Store and Fill do: contracts that the claimed proofs use.
-/
import Derived.Test.YtjnknnakllbaaaaCeSmall
namespace Go.Proofs.Ytjnknnakllbaaaa.Ce
set_option maxRecDepth 100000
open Go.RowKit

/-- The number of so many bytes at an address. -/
def ldW (bs : List (BitVec 8)) (s n : Nat) : BitVec 64 := ld (fun i => bs.getD (s + i) 0#8) n
theorem ld_step (f : Nat → BitVec 8) (k : Nat) (x : BitVec 8) (h : f k = x) : bits .or .u64 (u (ld f k)) (IntKind.u64.wrap (IntKind.u64.wrap (y x) * 2 ^ (8 * k))) = u (ld f (k + 1)) := by
  have e : IntKind.u64.wrap (y x) = y x := by rw [IntKind.wrap_u64]; have := y_nonneg x; have := y_lt x; omega
  rw [e, u_y, shl_u, or_u, ld, h]
/-- What a call leaves that writes into the memory at q alone. -/
def Wrote (q g : Nat) (bs : List (BitVec 8)) (e0 : Int) (w : World) (e : Ending) (w' : World) : Prop :=
  e = .returned (.int .i64 e0) ∧ Mem w' q g bs ∧ w.grownBy w' (some g)

theorem by8_raw (v : BitVec 64) (k : Nat) : IntKind.u8.wrap (u v / 2 ^ (8 * k)) = y (by8 v k) := by rw [shr_u, y_u]; rfl
theorem put_step {w wr : World} {q g s k n : Nat} {bs : List (BitVec 8)} (cs : List (BitVec 8)) (x : BitVec 8) (hk : cs.length = k) (hs : s + n ≤ bs.length) (hkn : k < n)
    (hm : Mem wr q g (splice bs s cs)) (hg : w.grownBy wr (some g)) :
    Mem (wr.setCell ⟨g, s + k, none⟩ (.int .u8 (y x))) q g (splice bs s (cs ++ [x])) ∧ w.grownBy (wr.setCell ⟨g, s + k, none⟩ (.int .u8 (y x))) (some g) := by
  have hr := hm.2.1.set (i := s + k) x
  subst hk
  rw [splice_set bs cs s x (by omega)] at hr
  exact ⟨hm.turned (grown_set (grown_refl _ _)) hr (by rw [splice_length (by simp; omega), splice_length (by omega)]), grown_set hg⟩
end Go.Proofs.Ytjnknnakllbaaaa.Ce
