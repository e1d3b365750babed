/-
  A word of which a byte is another one: laws that the claimed proofs use.
-/
import Derived.Test.YtaelfgdiboekpaaDoorNsForge
namespace Go.Proofs.YtaelfgdiboekpaaDoor.Ns
set_option maxRecDepth 100000
open Go.RowKit
open Ce (u y ld ldW Mem bytesOf bytesOf_length splice_length splice_getD ld_bit by8)
open Bi (Blk Drawn hasB hasB_iff hasB_not up_alloc up_drew up_trans i64_in ret_i ret_b grown_refl grown_trans grown_below)

theorem i64_and255 (n : Int) : bits .and .i64 n 255 = n % 256 := by
  have h1 : (BitVec.ofInt 64 255).toNat = 2 ^ 8 - 1 := by decide
  have key : (BitVec.ofInt 64 n &&& BitVec.ofInt 64 255).toNat = (n % ((2 ^ 64 : Nat) : Int)).toNat % 2 ^ 8 := by
    rw [BitVec.toNat_and, BitVec.toNat_ofInt, h1, Nat.and_two_pow_sub_one_eq_mod]
  show IntKind.i64.wrap ((BitVec.ofInt 64 n &&& BitVec.ofInt 64 255).toNat : Nat) = n % 256
  rw [key, IntKind.wrap_i64]
  omega
theorem i64_and1023 (n : Int) : bits .and .i64 n 1023 = n % 1024 := by
  have h1 : (BitVec.ofInt 64 1023).toNat = 2 ^ 10 - 1 := by decide
  have key : (BitVec.ofInt 64 n &&& BitVec.ofInt 64 1023).toNat = (n % ((2 ^ 64 : Nat) : Int)).toNat % 2 ^ 10 := by
    rw [BitVec.toNat_and, BitVec.toNat_ofInt, h1, Nat.and_two_pow_sub_one_eq_mod]
  show IntKind.i64.wrap ((BitVec.ofInt 64 n &&& BitVec.ofInt 64 1023).toNat : Nat) = n % 1024
  rw [key, IntKind.wrap_i64]
  omega
theorem xor_u (a b : BitVec 64) : bits .xor .u64 (u a) (u b) = u (a ^^^ b) := by
  unfold Ce.u; rw [u64_xor_nat _ _ a.isLt b.isLt, BitVec.toNat_xor]
/-! ### Bytes -/
/-- A byte is set. -/
def setB1 (bs : List (BitVec 8)) (a : Nat) (z : BitVec 8) : List (BitVec 8) := splice bs a [z]
theorem bytesOf_one (v : BitVec 64) : bytesOf v 1 = [by8 v 0] := rfl
theorem setB1_len {bs : List (BitVec 8)} {a : Nat} {z : BitVec 8} (h : a < bs.length) : (setB1 bs a z).length = bs.length := splice_length (by rw [List.length_singleton]; exact h)
theorem setB1_get {bs : List (BitVec 8)} {a : Nat} {z : BitVec 8} (h : a < bs.length) (i : Nat) : (setB1 bs a z).getD i 0#8 = if i = a then z else bs.getD i 0#8 := by
  unfold setB1
  rw [splice_getD _ _ _ _ (by rw [List.length_singleton]; exact h)]
  by_cases e : i = a
  · subst e; rw [if_pos (by simp), if_pos rfl]; simp
  · rw [if_neg (by simp; omega), if_neg e]
theorem setB1_back {bs : List (BitVec 8)} {a : Nat} {z : BitVec 8} (h : a < bs.length) : setB1 (setB1 bs a z) a (bs.getD a 0#8) = bs := by
  have h2 : a < (setB1 bs a z).length := by rw [setB1_len h]; exact h
  apply List.ext_getElem (by rw [setB1_len h2, setB1_len h])
  intro i h3 h4
  have e1 := setB1_get (z := bs.getD a 0#8) h2 i
  have e2 := setB1_get (z := z) h i
  rw [List.getD_eq_getElem?_getD, List.getElem?_eq_getElem h3] at e1
  have e3 : bs.getD i 0#8 = bs[i] := by rw [List.getD_eq_getElem?_getD, List.getElem?_eq_getElem h4]; rfl
  have e4 : (setB1 (setB1 bs a z) a (bs.getD a 0#8))[i] = if i = a then bs.getD a 0#8 else (setB1 bs a z).getD i 0#8 := e1
  rw [e4, e2]
  by_cases e : i = a
  · subst e; rw [if_pos rfl, e3]
  · rw [if_neg e, if_neg e, e3]
/-- The byte of a number of one byte. -/
theorem ldW_one (bs : List (BitVec 8)) (a : Nat) : by8 (ldW bs a 1) 0 = bs.getD a 0#8 := by
  apply BitVec.eq_of_getLsbD_eq
  intro j hj
  rw [Ce.by8_bit]
  unfold ldW
  rw [ld_bit _ 1 (by omega)]
  have e1 : (8 * 0 + j) / 8 = 0 := by omega
  have e2 : (8 * 0 + j) % 8 = j := by omega
  rw [e1, e2]
  simp [hj]
theorem by8_xor (v : BitVec 64) (z : BitVec 64) : by8 (v ^^^ z) 0 = by8 v 0 ^^^ by8 z 0 := by
  apply BitVec.eq_of_getLsbD_eq
  intro j hj
  rw [BitVec.getLsbD_xor, Ce.by8_bit, Ce.by8_bit, Ce.by8_bit, BitVec.getLsbD_xor]
  simp [hj]
theorem by8_small {n : Nat} (h : n < 256) (h0 : n ≠ 0) : by8 (BitVec.ofNat 64 n) 0 ≠ 0#8 := by
  intro e
  have e2 := congrArg BitVec.toNat e
  unfold Ce.by8 at e2
  simp at e2
  omega
theorem xor_ne {a b : BitVec 8} (h : b ≠ 0#8) : a ^^^ b ≠ a := by
  intro e
  apply h
  have : a ^^^ (a ^^^ b) = a ^^^ a := by rw [e]
  rwa [← BitVec.xor_assoc, BitVec.xor_self, BitVec.zero_xor] at this
/-- Numbers that are alike but for their lowest byte have the same bytes above it. -/
theorem high_bytes {f f' : Nat → BitVec 8} (h : (ld f 8).toNat / 256 = (ld f' 8).toNat / 256) {i : Nat} (h1 : 1 ≤ i) (h2 : i < 8) : f i = f' i := by
  apply BitVec.eq_of_getLsbD_eq
  intro j hj
  have e1 := ld_bit f 8 (by omega) (8 * i + j)
  have e2 := ld_bit f' 8 (by omega) (8 * i + j)
  have d1 : (8 * i + j) / 8 = i := by omega
  have d2 : (8 * i + j) % 8 = j := by omega
  rw [d1, d2, decide_eq_true (by omega : 8 * i + j < 8 * 8), Bool.true_and] at e1 e2
  rw [← e1, ← e2]
  have key : ∀ x : BitVec 64, x.getLsbD (8 * i + j) = (x.toNat / 256).testBit (8 * (i - 1) + j) := fun x => by
    rw [BitVec.getLsbD, show (256 : Nat) = 2 ^ 8 from rfl, Nat.testBit_div_two_pow]
    congr 1; omega
  rw [key, key, h]
/-- A byte of a free slot's word behind the first one is another one. -/
theorem nx_broken {bs : List (BitVec 8)} {b c k p a : Nat} {z : BitVec 8} (hk : nx bs b c k = some a) (hp : p < 7) (hl : b + k * zN c + (1 + p) < bs.length) (hz : z ≠ bs.getD (b + k * zN c + (1 + p)) 0#8) :
    nx (setB1 bs (b + k * zN c + (1 + p)) z) b c k = none := by
  obtain ⟨y, hy⟩ : ∃ y, b + k * zN c = y := ⟨_, rfl⟩
  have hw := word_at hk
  have hkk := (nx_lt hk)
  unfold nx at hk ⊢
  rw [hy] at hl hz hk hw ⊢
  split
  · rename_i h
    obtain ⟨_, h2, h3, h4⟩ := h
    exfalso
    split at hk
    · rename_i g
      obtain ⟨_, g2, g3, g4⟩ := g
      obtain ⟨m1, _⟩ := unOk_iff.1 h2
      obtain ⟨m2, _⟩ := unOk_iff.1 g2
      have hi : ∀ x : BitVec 64, x.toNat / 256 = unS x + 256 * unC x + 65536 * unM x := fun x => by
        unfold unS unC unM; omega
      have e : (ldW (setB1 bs (y + (1 + p)) z) y 8).toNat / 256 = (ldW bs y 8).toNat / 256 := by rw [hi, hi, h3, h4, m1, g3, g4, m2]
      have := high_bytes (f := fun i => (setB1 bs (y + (1 + p)) z).getD (y + i) 0#8) (f' := fun i => bs.getD (y + i) 0#8) e (i := 1 + p) (by omega) (by omega)
      rw [setB1_get hl, if_pos rfl] at this
      exact hz this
    · cases hk
  · rfl
theorem setB1_far {bs : List (BitVec 8)} {b c k p : Nat} {z : BitVec 8} (hc : c < 12) (hk : k < nS c) (hp : p < 7) (hb : b + 1024 ≤ bs.length) {j : Nat} (hj : j ≠ k) : nx (setB1 bs (b + k * zN c + (1 + p)) z) b c j = nx bs b c j := by
  by_cases hn : j < nS c
  · have h1 := slot_in hc hk
    have h2 := (cls c hc).1
    have e : ldW (setB1 bs (b + k * zN c + (1 + p)) z) (b + j * zN c) 8 = ldW bs (b + j * zN c) 8 := by
      apply ldW_far
      · simp; omega
      · rcases Nat.lt_or_gt_of_ne hj with hl | hl
        · have := slots_apart (z := zN c) hl; simp; omega
        · have := slots_apart (z := zN c) hl; simp; omega
    unfold nx
    rw [e]
  · unfold nx
    rw [if_neg (fun e => hn e.1), if_neg (fun e => hn e.1)]
/-- A list that came by a slot whose word is none any more isn't right. -/
theorem rt_broken {F G : Nat → Option Nat} {h f k : Nat} {L : List Nat} (hr : Rt F h f L) (hk : k ∈ L) (hG : G k = none) (hF : ∀ j, j ≠ k → G j = F j) : ¬ ∃ M, Rt G h f M := by
  obtain ⟨us, vs, rfl⟩ := List.append_of_mem hk
  have hn := hr.1.nodup
  obtain ⟨a, r1, r2⟩ := hr.1.cut
  have ea := r2.1
  subst ea
  have hna : k ∉ us := fun e => by
    have := (List.nodup_append.1 hn).2.2 k e k (by simp)
    exact this rfl
  refine no_next (r1.congr fun j hj => hF j (fun e => hna (by rw [← e]; exact hj))) hG ?_
  have := hr.2
  simp at this
  omega
end Go.Proofs.YtaelfgdiboekpaaDoor.Ns
