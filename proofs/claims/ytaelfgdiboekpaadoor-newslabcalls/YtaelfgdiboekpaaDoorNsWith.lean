/-
  How a slab is begun: contracts that the claimed proofs use.
-/
import Derived.Test.YtaelfgdiboekpaaDoorNsPush
namespace Go.Proofs.YtaelfgdiboekpaaDoor.Ns
set_option maxRecDepth 100000
open Go.RowKit
open Ce (u ldW Mem)
open Bi (Blk Drawn hasB hasB_iff hasB_not up_alloc up_drew up_trans i64_in ret_i ret_b grown_refl grown_trans grown_below)

/-! ### What is written -/
/-- A memory's bytes, a list's head (a slot and 1, or 0) and its count. -/
structure SS where
  bs : List (BitVec 8)
  h : Nat
  f : Nat
def SS.push (b c : Nat) (S : SS) (k : Nat) : SS := ⟨lay S.bs b c k S.h, k + 1, S.f + 1⟩
/-- The slots below j that aren't taken, the last one first. -/
def bl (b c : Nat) (T : List Nat) : Nat → SS → SS
  | 0, S => S
  | j + 1, S => bl b c T j (if j ∈ T then S else S.push b c j)
/-- The list of a state is right. -/
structure Ok (b c n : Nat) (S : SS) (L : List Nat) : Prop where
  rt : Rt (nx S.bs b c) S.h S.f L
  len : S.bs.length = n
  hh : S.h ≤ nS c
theorem Ok.push {b c n k : Nat} {S : SS} {L : List Nat} (o : Ok b c n S L) (hc : c < 12) (hb : b + 1024 ≤ n) (hk : k < nS c) (hn : k ∉ L) : Ok b c n (S.push b c k) (k :: L) :=
  ⟨o.rt.push hc hk (by have := (cls c hc).2.2.2.1; have := o.hh; omega) (by rw [o.len]; exact hb) hn, by show (lay _ _ _ _ _).length = n; rw [lay_len hc hk (by rw [o.len]; exact hb)]; exact o.len, hk⟩
theorem Ok.lt {b c n k : Nat} {S : SS} {L : List Nat} (o : Ok b c n S L) (hk : k < nS c) (hn : k ∉ L) : S.f < nS c := by
  have h1 : (k :: L).Nodup := List.nodup_cons.2 ⟨hn, o.rt.1.nodup⟩
  have h2 : ∀ x ∈ k :: L, x < nS c := fun x hx => by
    rcases List.mem_cons.1 hx with e | hx
    · omega
    · exact o.rt.in_ x hx
  have := len_le (nS c) h1 h2
  rw [List.length_cons, o.rt.2] at this
  omega
theorem bl_ok {b c n : Nat} {T : List Nat} (hc : c < 12) (hb : b + 1024 ≤ n) : ∀ (j : Nat) (S : SS) (L : List Nat), j ≤ nS c → (∀ k ∈ L, j ≤ k) → Ok b c n S L → Ok b c n (bl b c T j S) (tkn T j ++ L)
  | 0, S, L, _, _, o => o
  | j + 1, S, L, hj, hL, o => by
    unfold bl
    by_cases h : j ∈ T
    · rw [if_pos h, tkn_in T j h]
      exact bl_ok hc hb j S L (by omega) (fun k hk => by have := hL k hk; omega) o
    · rw [if_neg h, tkn_out T j h, List.append_assoc]
      exact bl_ok hc hb j _ (j :: L) (by omega) (fun k hk => by
        rcases List.mem_cons.1 hk with rfl | hk
        · omega
        · have := hL k hk; omega) (o.push hc hb (by omega) (fun hh => by have := hL j hh; omega))
theorem ok_zero {b c n : Nat} {bs : List (BitVec 8)} (h : bs.length = n) : Ok b c n ⟨bs, 0, 0⟩ [] := ⟨Rt.nil, h, Nat.zero_le _⟩
/-! ### Which slots are to be taken -/
def tkOk (N : Nat) : List Nat → List Int → Option (List Nat)
  | xs, [] => some xs
  | xs, x :: r => if hasB N x = true ∧ x.toNat ∉ xs then tkOk N (xs ++ [x.toNat]) r else none
theorem set_is {N : Nat} (xs : List Nat) (x : Int) : Bi.setB (setTo N xs) x true = decide (hasB N x = true ∧ x.toNat ∉ xs) := by
  cases h : hasB N x with
  | false =>
    unfold Bi.setB
    rw [setTo_len, h]; simp
  | true =>
    obtain ⟨k, rfl⟩ := Int.eq_ofNat_of_zero_le (hasB_iff.1 h).1
    have := (hasB_iff.1 h).2
    rw [setTo_setB (by omega)]
    simp
theorem set_to {N : Nat} {xs : List Nat} {x : Int} (h : hasB N x = true) : Bi.setL (setTo N xs) x true = setTo N (xs ++ [x.toNat]) := by
  obtain ⟨k, rfl⟩ := Int.eq_ofNat_of_zero_le (hasB_iff.1 h).1
  rw [setTo_snoc, Int.toNat_natCast]
/-- May a slab begin there? -/
def isB (L : Nat) (b : Int) : Bool := decide (0 ≤ b ∧ b + 1024 ≤ L ∧ b % 1024 = 0)
theorem isB_iff {L : Nat} {b : Int} : isB L b = true ↔ 0 ≤ b ∧ b + 1024 ≤ L ∧ b % 1024 = 0 := by simp [isB]
theorem isB_not {L : Nat} {b : Int} (h : ¬ (0 ≤ b ∧ b + 1024 ≤ L ∧ b % 1024 = 0)) : isB L b = false := by unfold isB; rw [decide_eq_false_iff_not]; exact h
section
variable {w w' W : World} {s q g b c h f : Nat} {bs : List (BitVec 8)} {L : List Nat}
theorem isBase_any (x : Int) (hm : Mem w q g bs) : Calls Tryd.prog 52 #[.pointer (some ⟨q, 0, none⟩), .int .i64 x] w fun e w' => e = .returned (.bool (isB bs.length x)) ∧ w = w' := by
  have HL := Lib.hid (Ce.len_any q g bs.length w hm.cell)
  have hl := hm.2.2
  obtain ⟨N, hN⟩ : ∃ N, bs.length = N := ⟨_, rfl⟩
  rw [hN] at HL hl ⊢
  clear hm hN
  have w1 : IntKind.i64.wrap ((N : Int) - 1024) = (N : Int) - 1024 := by rw [IntKind.wrap_i64]; omega
  by_cases h0 : 0 ≤ x
  · have d0 : decide (0 ≤ x) = true := by simpa using h0
    by_cases h1 : x ≤ (N : Int) - 1024
    · have d1 : decide (x ≤ (N : Int) - 1024) = true := by simpa using h1
      have e1 : x.tmod 1024 = x % 1024 := by rw [Int.tmod_eq_emod_of_nonneg h0]
      have H : Hid (isB N x = (x % 1024 == 0)) := by show _ = _; rw [Bool.eq_iff_iff, isB_iff]; simp; omega
      obtain ⟨z, hz⟩ : ∃ z, (x % 1024 == 0) = z := ⟨_, rfl⟩
      rw [hz] at H
      go_enter Tryd.func52, Tryd.ntmps52
      go_wp2_with (go_at_call 62; refine HL.out.mono ?_; rintro e w' ⟨rfl, rfl⟩)
      go_ret
      exact ⟨ret_b (by rw [H.out, ← hz]), rfl⟩
    · have d1 : decide (x ≤ (N : Int) - 1024) = false := by simpa using h1
      have H : Hid (isB N x = false) := isB_not (by omega)
      go_enter Tryd.func52, Tryd.ntmps52
      go_wp2_with (go_at_call 62; refine HL.out.mono ?_; rintro e w' ⟨rfl, rfl⟩)
      go_ret
      exact ⟨ret_b H.out.symm, rfl⟩
  · have d0 : decide (0 ≤ x) = false := by simpa using h0
    have H : Hid (isB N x = false) := isB_not (by omega)
    go_enter Tryd.func52, Tryd.ntmps52
    go_wp2
    go_ret
    exact ⟨ret_b H.out.symm, rfl⟩
theorem with_range (x y : Int) (v : Value) (hm : Mem w q g bs) (hT : Tb.Tab w) (hno : (isB bs.length x && clsB y) = false) : Calls Tryd.prog 15 #[.pointer (some ⟨q, 0, none⟩), .int .i64 x, .int .i64 y, v] w fun e w' => e = .returned (.tuple #[.pointer none, .int .i64 11]) ∧ w = w' := by
  have HB := Lib.hid (isBase_any x hm)
  have HC := Lib.hid (isClass_any y w hT)
  generalize isB bs.length x = i at *
  generalize clsB y = j at *
  clear hm hT
  cases i with
  | false =>
    go_enter Tryd.func15, Tryd.ntmps15
    go_wp2_with (go_at_call 52; refine HB.out.mono ?_; rintro e w' ⟨rfl, rfl⟩)
    go_ret2
    exact ⟨rfl, rfl⟩
  | true =>
    obtain rfl : j = false := hno
    go_enter Tryd.func15, Tryd.ntmps15
    go_wp2_with (first | (go_at_call 52; refine HB.out.mono ?_; rintro e w' ⟨rfl, rfl⟩) | (go_at_call 53; refine HC.out.mono ?_; rintro e w' ⟨rfl, rfl⟩))
    go_ret2
    exact ⟨rfl, rfl⟩
end
end Go.Proofs.YtaelfgdiboekpaaDoor.Ns
