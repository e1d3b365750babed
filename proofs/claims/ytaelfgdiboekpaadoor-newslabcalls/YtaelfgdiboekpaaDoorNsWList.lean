/-
  The way along the list: contracts that the claimed proofs use.
-/
import Derived.Test.YtaelfgdiboekpaaDoorNsWalk
namespace Go.Proofs.YtaelfgdiboekpaaDoor.Ns
set_option maxRecDepth 100000
open Go.RowKit
open Ce (u ldW Mem)
open Bi (Blk Drawn hasB hasB_iff hasB_not up_alloc up_drew up_trans i64_in ret_i ret_b grown_refl grown_trans grown_below)

section
variable {w w0 : World} {s q g b c h f : Nat} {bs : List (BitVec 8)}
set_option maxHeartbeats 2000000 in
theorem walk_list {p : Nat} (m : Sb w0 s q g bs b c h f) (hT : Tb.Tab w0) (hp : w0.heap.size ≤ p) (hI : IL w0.heap.size p w0 [] w) :
    Calls Tryd.prog 78 #[.pointer (some ⟨s, 0, none⟩), .func (.func 79) #[] #[.pointer (some ⟨p, 0, none⟩)]] w fun e w' => ∃ E xs, e = .returned (.int .i64 E) ∧ Rgt (nx bs b c) h f E xs ∧ IL w0.heap.size p w0 xs w' := by
  have hup : ∀ (xs : List Nat) (wr : World), IL w0.heap.size p w0 xs wr → Sb wr s q g bs b c h f ∧ Tb.Tab wr ∧ w0.heap.size ≤ wr.heap.size := fun xs wr hi => ⟨m.below (hi.1), hT.below (hi.1), (hi.1).size⟩
  have hmore : ∀ (xs : List Nat) (wr wr' : World), IL w0.heap.size p w0 xs wr → Below wr.heap.size wr wr' → IL w0.heap.size p w0 xs wr' := fun _ _ _ hi hb => by
    obtain ⟨h1, v, h2, h3⟩ := hi
    exact ⟨up_trans h1 hb, v, h2.below hb, own_below h3 hb⟩
  have hfN : f ≤ nS c ∧ nS c ≤ 128 ∧ h ≤ nS c := ⟨m.hf, (cls c m.hc).2.2.2.1, m.hh⟩
  obtain ⟨_, _, hsz0⟩ := hup _ _ hI
  have c3 := (hup _ _ hI).1.c3
  have c4 := (hup _ _ hI).1.c4
  have HU := Lib.hid hup
  have HMo := Lib.hid hmore
  have HI := Lib.hid hI
  have HStep : Hid (∀ (xs : List Nat) (wr : World) (k : Nat), IL w0.heap.size p w0 xs wr → xs.length ≤ 128 → Calls Tryd.prog 79 #[.int .i64 (k : Int), .pointer (some ⟨p, 0, none⟩)] wr fun e w' => e = .returned (.tuple #[]) ∧ IL w0.heap.size p w0 (xs ++ [k]) w') := fun xs wr k hi hx => see_list k rfl hp (by omega) hi
  have HNo : Hid (∀ (xs : List Nat) (wr : World) (k : Int), IL w0.heap.size p w0 xs wr → hasB (nS c) k = false → Calls Tryd.prog 81 #[.pointer (some ⟨s, 0, none⟩), .int .i64 k] wr fun e w' => e = .returned (.tuple #[.int .i64 (-1), .bool false]) ∧ IL w0.heap.size p w0 xs w') := fun xs wr k hi hk => (next_no k (hup xs wr hi).1 (hup xs wr hi).2.1 hk).mono fun _ _ ⟨he, hb⟩ => ⟨he, hmore xs wr _ hi hb⟩
  have HYes : Hid (∀ (xs : List Nat) (wr : World) (k : Nat), IL w0.heap.size p w0 xs wr → k < nS c → Calls Tryd.prog 81 #[.pointer (some ⟨s, 0, none⟩), .int .i64 (k : Int)] wr fun e w' => (∃ v : Int, e = .returned (.tuple #[.int .i64 v, .bool (nx bs b c k).isSome]) ∧ ∀ a, nx bs b c k = some a → v = (a : Int) - 1) ∧ IL w0.heap.size p w0 xs w') := fun xs wr k hi hk => (next_yes k (hup xs wr hi).1 (hup xs wr hi).2.1 hk).mono fun _ _ ⟨he, hb⟩ => ⟨he, hmore xs wr _ hi hb⟩
  have HLt : Hid (∀ k a, nx bs b c k = some a → k < nS c ∧ a ≤ 128) := fun k a e => nx_lt e
  clear hup hmore m hT hI
  generalize nx bs b c = F at *
  generalize nS c = N at *
  go_enter Tryd.func78, Tryd.ntmps78
  go_wp2_with fail
  go_loopw [5, 16] (fun v i wr => ∃ (xs : List Nat) (a : Nat), xs.length ≤ f ∧ a ≤ 128 ∧ i = .int .i64 (xs.length : Int) ∧ v = .int .i64 ((a : Int) - 1) ∧ Rch F h xs a ∧ IL w0.heap.size p w0 xs wr) (fun _ i _ => f - (intOf i).toNat)
  case atStart => exact ⟨[], h, by simp, by omega, rfl, rfl, rfl, HI.out⟩
  case round =>
    obtain ⟨xs, a, hj, ha, rfl, rfl, hr, hi⟩ := hrel
    have HR := Lib.hid hr
    have HIr := Lib.hid hi
    have hszr := (HU.out _ _ hi).2.2
    obtain ⟨j, hxs⟩ : ∃ j, xs.length = j := ⟨_, rfl⟩
    have HX := Lib.hid hxs
    rw [hxs] at hj ⊢
    clear hr hi hxs
    by_cases hlt : j < f
    · by_cases hz : a = 0
      · subst hz
        have hn : hasB N (-1) = false := hasB_not.2 (by omega)
        have HC := Lib.hid (HNo.out xs wr (-1) HIr.out hn)
        have ez : ((0 : Nat) : Int) - 1 = -1 := rfl
        rw [ez]
        clear hn
        go_wp2_with fail
        refine HC.out.mono ?_
        rintro e w1 ⟨rfl, i1⟩
        have I1 := Lib.hid i1
        clear i1 HC
        go_wp2_with fail
        go_ret
        exact ⟨10, xs, rfl, .inr ⟨rfl, no_early HR.out (by rw [HX.out]; exact hlt)⟩, I1.out⟩
      · obtain ⟨k, rfl⟩ : ∃ k, a = k + 1 := ⟨a - 1, by omega⟩
        have ek : ((k + 1 : Nat) : Int) - 1 = (k : Int) := by omega
        rw [ek]
        clear hz ek
        by_cases hk : k < N
        · have HC := Lib.hid (HYes.out xs wr k HIr.out hk)
          obtain ⟨o, ho⟩ : ∃ o, F k = o := ⟨_, rfl⟩
          rw [ho] at HC
          have HO := Lib.hid ho
          clear ho
          cases o with
          | none =>
            go_wp2_with fail
            refine HC.out.mono ?_
            rintro e w1 ⟨⟨v, rfl, -⟩, i1⟩
            have I1 := Lib.hid i1
            clear i1 HC
            go_wp2_with fail
            go_ret
            exact ⟨10, xs, rfl, .inr ⟨rfl, no_next HR.out HO.out (by rw [HX.out]; exact hlt)⟩, I1.out⟩
          | some a' =>
            go_wp2_with fail
            refine HC.out.mono ?_
            rintro e w1 ⟨⟨v, rfl, hv⟩, i1⟩
            have HV := Lib.hid (hv a' rfl)
            have HS := Lib.hid (HStep.out xs w1 k i1 (by rw [HX.out]; omega))
            clear i1 hv HC
            go_wp2_with fail
            refine HS.out.mono ?_
            rintro e w2 ⟨rfl, i2⟩
            have I2 := Lib.hid i2
            clear i2 HS
            go_wp2_with fail
            go_roundw
            case rel => exact ⟨xs ++ [k], a', by rw [List.length_append, HX.out]; exact hlt, (HLt.out k a' HO.out).2, by rw [List.length_append, HX.out]; go_num, by rw [HV.out], HR.out.snoc HO.out, I2.out⟩
            case measure => simp [intOf]; omega
        · have hn : hasB N (k : Int) = false := hasB_not.2 (by omega)
          have HC := Lib.hid (HNo.out xs wr (k : Int) HIr.out hn)
          have HK := Lib.hid hk
          clear hn hk
          go_wp2_with fail
          refine HC.out.mono ?_
          rintro e w1 ⟨rfl, i1⟩
          have I1 := Lib.hid i1
          clear i1 HC
          go_wp2_with fail
          go_ret
          have hF : F k = none := by
            cases e : F k with
            | none => rfl
            | some a => exact absurd (HLt.out k a e).1 HK.out
          exact ⟨10, xs, rfl, .inr ⟨rfl, no_next HR.out hF (by rw [HX.out]; exact hlt)⟩, I1.out⟩
    · obtain rfl : j = f := by omega
      by_cases hz : a = 0
      · subst hz
        have ez : ((0 : Nat) : Int) - 1 = -1 := rfl
        rw [ez]
        go_wp2_with fail
        go_ret
        exact ⟨0, xs, rfl, .inl ⟨rfl, HR.out, HX.out⟩, HIr.out⟩
      · have hd : (((a : Int) - 1) != -1) = true := by rw [bne_iff_ne]; omega
        obtain ⟨k, ek⟩ : ∃ k, a = k + 1 := ⟨a - 1, by omega⟩
        have HK := Lib.hid ek
        generalize (a : Int) - 1 = y at *
        clear hz ek
        go_wp2_with fail
        go_ret
        exact ⟨10, xs, rfl, .inr ⟨rfl, no_end (k := k) (by rw [← HK.out]; exact HR.out) HX.out⟩, HIr.out⟩
end
end Go.Proofs.YtaelfgdiboekpaaDoor.Ns
