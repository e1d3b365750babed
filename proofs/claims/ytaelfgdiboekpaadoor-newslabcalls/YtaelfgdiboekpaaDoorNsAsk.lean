/-
  The slot of an address, and the next one of a slot: contracts that the claimed proofs use.
-/
import Derived.Test.YtaelfgdiboekpaaDoorNsLists
namespace Go.Proofs.YtaelfgdiboekpaaDoor.Ns
set_option maxRecDepth 100000
open Go.RowKit
open Ce (u ldW Mem)
open Bi (Blk Drawn hasB hasB_iff hasB_not up_alloc up_drew up_trans i64_in ret_i ret_b grown_refl grown_trans grown_below)

def I64 (n : Int) : Prop := -9223372036854775808 ≤ n ∧ n ≤ 9223372036854775807
theorem slot_none {b c : Nat} {x : Int} (hc : c < 12) (h : slotO b c x = none) (k : Nat) (hk : k < nS c) : x ≠ ((b + k * zN c : Nat) : Int) := fun e => by
  rw [e, slotO_at hc hk] at h; cases h
section
variable {w w' : World} {s q g b c h f : Nat} {bs : List (BitVec 8)}
set_option maxHeartbeats 1000000 in
theorem slot_any (x : Int) (hx : I64 x) (m : Sb w s q g bs b c h f) (hT : Tb.Tab w) : Calls Tryd.prog 40 #[.pointer (some ⟨s, 0, none⟩), .int .i64 x] w fun e w' => e = .returned (slotV b c x) ∧ w = w' := by
  have c1 := m.c1
  have HS := Lib.hid (size_any m hT)
  have HH := Lib.hid (fun k => has_any k m hT)
  obtain ⟨z0, z1, z2, z3, z4⟩ := cls c m.hc
  obtain ⟨b0, b1⟩ := m.bd
  have hcc := m.hc
  have key : ∀ k : Nat, k < nS c → (k : Int) * (zN c : Int) = ((k * zN c : Nat) : Int) ∧ k * zN c ≤ 1024 := fun k hk => ⟨by rw [Int.natCast_mul], by have := slot_in hcc hk; omega⟩
  have hyes : ∀ k : Nat, slotO b c x = some k → k < nS c ∧ x = ((b + k * zN c : Nat) : Int) := fun k e => slotO_some e
  have hno : slotO b c x = none → ∀ k : Nat, k < nS c → x ≠ ((b + k * zN c : Nat) : Int) := fun e => slot_none hcc e
  unfold slotV
  generalize slotO b c x = o at *
  generalize nS c = n at *
  generalize zN c = z at *
  clear m hT hcc
  unfold I64 at hx
  obtain ⟨d, hd⟩ : ∃ d, IntKind.i64.wrap (x - b) = d := ⟨_, rfl⟩
  have hdb : I64 d := by rw [← hd, IntKind.wrap_i64]; unfold I64; omega
  unfold I64 at hdb
  have hzn : ((z : Int) == 0) = false := by simp; omega
  have hq : ((z : Int) == -1) = false := by rw [beq_eq_false_iff_ne]; omega
  have w1 : IntKind.i64.wrap (d.tdiv z) = d.tdiv z := by
    have h1 : (d.tdiv z).natAbs ≤ d.natAbs / 8 := by rw [Int.natAbs_tdiv]; exact Nat.div_le_div_left (by omega) (by omega)
    rw [IntKind.wrap_i64]; omega
  by_cases hm : d.tmod z = 0
  · have e0 : (d.tmod z != 0) = false := by simpa using hm
    have hk : d.tdiv z * z = d := by have := Int.mul_tdiv_add_tmod d z; rw [hm, Int.mul_comm] at this; omega
    have HQ : Hid ((hasB n (d.tdiv z) = true → o = some (d.tdiv z).toNat) ∧ (hasB n (d.tdiv z) = false → o = none)) := by
      show _ ∧ _
      generalize d.tdiv z = k at hk
      subst hk
      cases o with
      | none =>
        refine ⟨fun hh => ?_, fun _ => rfl⟩
        obtain ⟨k0, k1⟩ := hasB_iff.1 hh
        obtain ⟨K, rfl⟩ := Int.eq_ofNat_of_zero_le k0
        obtain ⟨e1, e2⟩ := key K (by omega)
        exfalso
        refine hno rfl K (by omega) ?_
        rw [e1, IntKind.wrap_i64] at hd
        omega
      | some j =>
        obtain ⟨j1, j2⟩ := hyes j rfl
        obtain ⟨e1, e2⟩ := key j j1
        have h5 : k * z = j * z := by rw [e1]; rw [IntKind.wrap_i64] at hd; omega
        have h6 : k = j := Int.eq_of_mul_eq_mul_right (by omega) h5
        rw [h6]
        refine ⟨fun _ => rfl, fun hh => ?_⟩
        rw [hasB_iff.2 ⟨by omega, by omega⟩] at hh; cases hh
    generalize hkk : d.tdiv z = k at *
    cases hh : hasB n k with
    | true =>
      have ho := HQ.out.1 hh
      obtain ⟨K, rfl⟩ := Int.eq_ofNat_of_zero_le (hasB_iff.1 hh).1
      rw [Int.toNat_natCast] at ho
      subst ho
      have HH2 := Lib.hid (HH.out (K : Int))
      rw [hh] at HH2
      clear hh hm hk hdb HH HQ hyes hno key
      go_enter Tryd.func40, Tryd.ntmps40
      go_wp2_with (first
        | (go_at_call 29; refine HS.out.mono ?_; rintro e w' ⟨rfl, rfl⟩)
        | (go_at_call 80; refine HH2.out.mono ?_; rintro e w' ⟨rfl, rfl⟩))
      go_ret2
      exact ⟨rfl, rfl⟩
    | false =>
      have ho := HQ.out.2 hh
      subst ho
      have HH2 := Lib.hid (HH.out k)
      rw [hh] at HH2
      clear hh hm hk hdb HH HQ hyes hno key
      go_enter Tryd.func40, Tryd.ntmps40
      go_wp2_with (first
        | (go_at_call 29; refine HS.out.mono ?_; rintro e w' ⟨rfl, rfl⟩)
        | (go_at_call 80; refine HH2.out.mono ?_; rintro e w' ⟨rfl, rfl⟩))
      go_ret2
      exact ⟨rfl, rfl⟩
  · have e0 : (d.tmod z != 0) = true := by simpa using hm
    have ho : o = none := by
      cases o with
      | none => rfl
      | some j =>
        exfalso
        obtain ⟨j1, j2⟩ := hyes j rfl
        obtain ⟨e1, e2⟩ := key j j1
        have h5 : d = j * z := by rw [e1]; rw [IntKind.wrap_i64] at hd; omega
        exact hm (by rw [h5, Int.mul_tmod_left])
    subst ho
    generalize hkk : d.tdiv z = k at *
    clear hm hdb HH hyes hno key
    go_enter Tryd.func40, Tryd.ntmps40
    go_wp2_with (first
      | (go_at_call 29; refine HS.out.mono ?_; rintro e w' ⟨rfl, rfl⟩))
    go_ret2
    exact ⟨rfl, rfl⟩

/-! ### The next one -/
theorem load8 (s : Nat) (hm : Mem w q g bs) (hh : s + 8 ≤ bs.length) :
    Calls Tryd.prog 45 #[.pointer (some ⟨q, 0, none⟩), .int .i64 (s : Int), .int .i64 8] w fun e w' => e = .returned (.tuple #[.int .u64 (u (ldW bs s 8)), .int .i64 0]) ∧ w = w' :=
  Ce.load_yes q g bs s 8 w hm (by decide) hh
theorem next_no (k : Int) (m : Sb w s q g bs b c h f) (hT : Tb.Tab w) (hk : hasB (nS c) k = false) : Calls Tryd.prog 81 #[.pointer (some ⟨s, 0, none⟩), .int .i64 k] w fun e w' => e = .returned (.tuple #[.int .i64 (-1), .bool false]) ∧ Below w.heap.size w w' := by
  have HA := Lib.hid (address_no k m hT hk)
  clear m hT hk
  go_enter Tryd.func81, Tryd.ntmps81
  go_wp2_with fail
  refine HA.out.mono ?_
  rintro e w1 ⟨rfl, d1⟩
  have D1 := Lib.hid d1.below
  clear d1
  go_wp2
  go_ret2
  exact ⟨rfl, D1.out⟩
set_option maxHeartbeats 1000000 in
theorem next_yes (k : Nat) (m : Sb w s q g bs b c h f) (hT : Tb.Tab w) (hk : k < nS c) : Calls Tryd.prog 81 #[.pointer (some ⟨s, 0, none⟩), .int .i64 (k : Int)] w fun e w' =>
    (∃ v : Int, e = .returned (.tuple #[.int .i64 v, .bool (nx bs b c k).isSome]) ∧ ∀ a, nx bs b c k = some a → v = (a : Int) - 1) ∧ Below w.heap.size w w' := by
  have HA := Lib.hid (address_yes k m hT hk)
  have h1 := slot_in m.hc hk
  have h2 := (cls c m.hc).1
  have h3 := m.bd
  have HL : Hid (∀ V : World, Below w.heap.size w V → Calls Tryd.prog 45 #[.pointer (some ⟨q, 0, none⟩), .int .i64 ((b + k * zN c : Nat) : Int), .int .i64 8] V fun e w' => e = .returned (.tuple #[.int .u64 (u (ldW bs (b + k * zN c) 8)), .int .i64 0]) ∧ V = w') := fun V hV => load8 _ (m.below hV).mem (by omega)
  have HM := Lib.hid m
  have HT := Lib.hid hT
  unfold nx
  obtain ⟨y, hy⟩ : ∃ y, b + k * zN c = y := ⟨_, rfl⟩
  rw [hy] at HA HL ⊢
  obtain ⟨x, hx⟩ : ∃ x, ldW bs y 8 = x := ⟨_, rfl⟩
  rw [hx] at HL ⊢
  have HU : Hid (∀ V : World, Below w.heap.size w V → Calls Tryd.prog 12 #[.int .u64 (u x)] V fun e w' => e = .returned (unV x) ∧ Below V.heap.size V w') := fun V hV => unword_any x V (hT.below hV)
  unfold unV at HU
  have l1 := un_lt x
  generalize unS x = S at *
  generalize unN x = N at *
  generalize unC x = C at *
  generalize unOk x = o at *
  clear m hT hy hx h1 h2 h3
  cases o with
  | false =>
    have e0 : ∀ z : Option Nat, (if k < nS c ∧ (false : Bool) = true ∧ S = k ∧ C = c then z else none) = none := fun z => if_neg (by simp)
    rw [e0]
    rw [if_neg (by simp)] at HU
    clear e0 hk l1
    go_enter Tryd.func81, Tryd.ntmps81
    go_wp2_with fail
    refine HA.out.mono ?_
    rintro e w1 ⟨rfl, d1⟩
    have D1 := Lib.hid d1.below
    have HL1 := Lib.hid (HL.out _ d1.below)
    have r0 := (HM.out.below d1.below).c0
    have r2 := (HM.out.below d1.below).c2
    clear d1 HA HL HM
    go_wp2_with (go_at_call 45; refine HL1.out.mono ?_; rintro e w' ⟨rfl, rfl⟩)
    refine (HU.out _ D1.out).mono ?_
    rintro e w2 ⟨rfl, d2⟩
    have D2 := Lib.hid (up_trans D1.out d2)
    clear d2 HU HL1
    go_wp2_with fail
    go_quiet (fail)
    go_wp2
    go_ret2
    exact ⟨⟨_, rfl, fun a e => by cases e⟩, up_drew D2.out _⟩
  | true =>
    rw [if_pos rfl] at HU
    by_cases hS : S = k
    · by_cases hC : C = c
      · subst hS
        subst hC
        rw [if_pos ⟨hk, rfl, rfl, rfl⟩]
        have s1 : ((S : Int) == (S : Int)) = true := by simp
        have s2 : ((C : Int) == (C : Int)) = true := by simp
        clear hk l1
        go_enter Tryd.func81, Tryd.ntmps81
        go_wp2_with fail
        refine HA.out.mono ?_
        rintro e w1 ⟨rfl, d1⟩
        have D1 := Lib.hid d1.below
        have HL1 := Lib.hid (HL.out _ d1.below)
        have HM1 := Lib.hid (HM.out.below d1.below)
        have r0 := HM1.out.c0
        clear d1 HA HL HM
        go_wp2_with (go_at_call 45; refine HL1.out.mono ?_; rintro e w' ⟨rfl, rfl⟩)
        refine (HU.out _ D1.out).mono ?_
        rintro e w2 ⟨rfl, d2⟩
        have D2 := Lib.hid (up_trans D1.out d2)
        have r2 := (HM1.out.below d2).c2
        clear d2 HU HL1 r0
        go_wp2_with fail
        go_quiet (fail)
        go_wp2
        go_ret2
        exact ⟨⟨_, rfl, fun a e => by cases e; rfl⟩, up_drew D2.out _⟩
      · subst hS
        rw [if_neg (fun e => hC e.2.2.2)]
        have s1 : ((S : Int) == (S : Int)) = true := by simp
        have s2 : ((C : Int) == (c : Int)) = false := by simp; omega
        clear hk l1 hC
        go_enter Tryd.func81, Tryd.ntmps81
        go_wp2_with fail
        refine HA.out.mono ?_
        rintro e w1 ⟨rfl, d1⟩
        have D1 := Lib.hid d1.below
        have HL1 := Lib.hid (HL.out _ d1.below)
        have HM1 := Lib.hid (HM.out.below d1.below)
        have r0 := HM1.out.c0
        clear d1 HA HL HM
        go_wp2_with (go_at_call 45; refine HL1.out.mono ?_; rintro e w' ⟨rfl, rfl⟩)
        refine (HU.out _ D1.out).mono ?_
        rintro e w2 ⟨rfl, d2⟩
        have D2 := Lib.hid (up_trans D1.out d2)
        have r2 := (HM1.out.below d2).c2
        clear d2 HU HL1 r0
        go_wp2_with fail
        go_quiet (fail)
        go_wp2
        go_ret2
        exact ⟨⟨_, rfl, fun a e => by cases e⟩, up_drew D2.out _⟩
    · rw [if_neg (fun e => hS e.2.2.1)]
      have s1 : ((S : Int) == (k : Int)) = false := by simp; omega
      clear hk l1 hS
      go_enter Tryd.func81, Tryd.ntmps81
      go_wp2_with fail
      refine HA.out.mono ?_
      rintro e w1 ⟨rfl, d1⟩
      have D1 := Lib.hid d1.below
      have HL1 := Lib.hid (HL.out _ d1.below)
      have HM1 := Lib.hid (HM.out.below d1.below)
      have r0 := HM1.out.c0
      clear d1 HA HL HM
      go_wp2_with (go_at_call 45; refine HL1.out.mono ?_; rintro e w' ⟨rfl, rfl⟩)
      refine (HU.out _ D1.out).mono ?_
      rintro e w2 ⟨rfl, d2⟩
      have D2 := Lib.hid (up_trans D1.out d2)
      have r2 := (HM1.out.below d2).c2
      clear d2 HU HL1 r0
      go_wp2_with fail
      go_quiet (fail)
      go_wp2
      go_ret2
      exact ⟨⟨_, rfl, fun a e => by cases e⟩, up_drew D2.out _⟩
end
end Go.Proofs.YtaelfgdiboekpaaDoor.Ns
