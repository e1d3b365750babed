/-
  Words and their numbers, there and back: the walk of a statement, its end.
-/
import Derived.Test.YtaelfgdiboekpaaDoorNsWRaw
namespace Go.Proofs.YtaelfgdiboekpaaDoor.Ns
set_option maxRecDepth 100000
open Go.RowKit
open Ce (u ldW Mem)
open Bi (Blk Drawn hasB hasB_iff hasB_not up_alloc up_drew up_trans i64_in ret_i ret_b grown_refl grown_trans grown_below)

/-- Where Unword tells noughts, or numbers. -/
theorem wd_un3 {x : BitVec 64} (h : unOk x = true) : okW (unS x : Int) ((unN x : Int) - 1) (unC x : Int) = true ∧ wdV (unS x : Int) ((unN x : Int) - 1) (unC x : Int) = .tuple #[.int .u64 (u x), .bool true] := by
  have h1 := ok_un x (unOk_iff.1 h).1
  rw [h] at h1
  refine ⟨h1, ?_⟩
  unfold wdV
  rw [h1, if_pos rfl, show ((unS x : Int)).toNat = unS x from rfl, show ((unC x : Int)).toNat = unC x from rfl, show ((unN x : Int) - 1 + 1).toNat = unN x by omega, wd_un (unOk_iff.1 h).1]
set_option maxHeartbeats 2000000 in
theorem words_any (s n c : Int) (x : BitVec 64) (w : World) (hT : Tb.Tab w) : Calls Tryd.prog 3 #[.int .i64 s, .int .i64 n, .int .i64 c, .int .u64 (u x)] w fun e w' => e = .returned (.bool true) ∧ Below w.heap.size w w' := by
  have HA := Lib.hid (alive_any w hT)
  have HX := Lib.hid (raws x)
  have HW : Hid (∀ V : World, Below w.heap.size w V → Calls Tryd.prog 10 #[.int .i64 s, .int .i64 n, .int .i64 c] V fun e w' => e = .returned (wdV s n c) ∧ Below V.heap.size V w') := fun V hV => word_any s n c V (hT.below hV)
  have HR := Lib.hid (fun V => rword_any s n c V)
  have HU : Hid (∀ V : World, Below w.heap.size w V → Calls Tryd.prog 12 #[.int .u64 (u x)] V fun e w' => e = .returned (unV x) ∧ Below V.heap.size V w') := fun V hV => unword_any x V (hT.below hV)
  have HUa : Hid (∀ (y : BitVec 64) (V : World), Below w.heap.size w V → Calls Tryd.prog 12 #[.int .u64 (u y)] V fun e w' => e = .returned (unV y) ∧ Below V.heap.size V w') := fun y V hV => unword_any y V (hT.below hV)
  clear hT
  unfold unV at HU
  cases ho : okW s n c with
  | false =>
    have e : wdV s n c = .tuple #[.int .u64 0, .bool false] := by unfold wdV; rw [ho]; rfl
    rw [e] at HW HR
    clear e ho HUa
    go_enter Tryd.func3, Tryd.ntmps3
    go_wp2_with fail
    refine HA.out.mono ?_
    rintro e w1 ⟨rfl, b1⟩
    have B1 := Lib.hid b1
    clear b1 HA
    go_wp2_with fail
    refine (HW.out _ B1.out).mono ?_
    rintro e w2 ⟨rfl, b2⟩
    have B2 := Lib.hid (up_trans B1.out b2)
    clear b2 HW B1
    go_wp2_with (go_at_call 11; refine (HR.out _).mono ?_; rintro e w' ⟨rfl, rfl⟩)
    clear HR
    refine (HU.out _ B2.out).mono ?_
    rintro e w3 ⟨rfl, b3⟩
    have B3 := Lib.hid (up_trans B2.out b3)
    clear b3 HU B2
    cases hu : unOk x with
    | true =>
      obtain ⟨k1, k2⟩ := wd_un3 hu
      have HR3 := Lib.hid (fun V => rword_any (unS x : Int) ((unN x : Int) - 1) (unC x : Int) V)
      rw [k2] at HR3
      have eb : (u x == u x) = true := by simp
      rw [if_pos rfl]
      generalize (unN x : Int) - 1 = N1 at *
      generalize (unS x : Int) = S1 at *
      generalize (unC x : Int) = C1 at *
      clear hu k1 k2 HX
      go_wp2_with fail
      refine (HR3.out _).mono ?_
      rintro e w' ⟨rfl, rfl⟩
      clear HR3
      go_wp2_with fail
      go_ret
      exact ⟨rfl, B3.out⟩
    | false =>
      rw [if_neg (by simp)]
      obtain ⟨e0, e1, e2, e3⟩ := HX.out
      by_cases hm : unM x = MK
      · have HR3 := Lib.hid (fun V => rword_raw3 x hm hu V)
        rw [hm] at e0
        have d0 : (u x / 16777216 == 440005911841) = true := by rw [e0, mk_int]; exact beq_self_eq_true _
        clear hu hm e0 e1 e2 e3 HX
        go_wp2_with fail
        refine (HR3.out _).mono ?_
        rintro e w' ⟨rfl, rfl⟩
        clear HR3
        go_wp2_with fail
        go_ret
        exact ⟨rfl, B3.out⟩
      · have d0 : (u x / 16777216 == 440005911841) = false := by
          rw [e0, mk_int, beq_eq_false_iff_ne]
          exact fun e => hm (Int.ofNat.inj e)
        clear hu hm e0 e1 e2 e3 HX
        go_wp2_with fail
        go_ret
        exact ⟨rfl, B3.out⟩
  | true =>
    obtain ⟨a, b, d, rfl, rfl, rfl, h1, h2, h3⟩ := ok_nat ho
    have e : wdV (a : Int) ((b : Int) - 1) (d : Int) = .tuple #[.int .u64 (u (wd a b d)), .bool true] := by
      unfold wdV
      rw [ho, if_pos rfl, show ((a : Int)).toNat = a from rfl, show ((d : Int)).toNat = d from rfl, show ((b : Int) - 1 + 1).toNat = b by omega]
    rw [e] at HW HR
    have eu : unV (wd a b d) = .tuple #[.int .i64 (a : Int), .int .i64 ((b : Int) - 1), .int .i64 (d : Int), .bool true] := by
      obtain ⟨q1, q2, q3, q4⟩ := un_wd (s := a) (n := b) (c := d) (by omega) (by omega) (by omega)
      unfold unV
      rw [wd_ok h1 h2 h3, if_pos rfl, q1, q2, q3]
    have HU2 := Lib.hid (HUa.out (wd a b d))
    rw [eu] at HU2
    generalize wd a b d = y at *
    have ey : (u y != u y) = false := by simp
    generalize (b : Int) - 1 = B at *
    generalize (a : Int) = A at *
    generalize (d : Int) = D at *
    have eA : (A != A) = false := by simp
    have eB : (B != B) = false := by simp
    have eD : (D != D) = false := by simp
    clear e ho HUa eu h1 h2 h3
    go_enter Tryd.func3, Tryd.ntmps3
    go_wp2_with fail
    refine HA.out.mono ?_
    rintro e w1 ⟨rfl, b1⟩
    have B1 := Lib.hid b1
    clear b1 HA
    go_wp2_with fail
    refine (HW.out _ B1.out).mono ?_
    rintro e w2 ⟨rfl, b2⟩
    have B2 := Lib.hid (up_trans B1.out b2)
    clear b2 HW B1
    go_wp2_with (go_at_call 11; refine (HR.out _).mono ?_; rintro e w' ⟨rfl, rfl⟩)
    clear HR
    refine (HU2.out _ B2.out).mono ?_
    rintro e w4 ⟨rfl, b4⟩
    have B4 := Lib.hid (up_trans B2.out b4)
    clear b4 HU2 B2
    go_wp2_with fail
    refine (HU.out _ B4.out).mono ?_
    rintro e w3 ⟨rfl, b3⟩
    have B3 := Lib.hid (up_trans B4.out b3)
    clear b3 HU B4
    cases hu : unOk x with
    | true =>
      obtain ⟨k1, k2⟩ := wd_un3 hu
      have HR3 := Lib.hid (fun V => rword_any (unS x : Int) ((unN x : Int) - 1) (unC x : Int) V)
      rw [k2] at HR3
      have eb : (u x == u x) = true := by simp
      rw [if_pos rfl]
      generalize (unN x : Int) - 1 = N1 at *
      generalize (unS x : Int) = S1 at *
      generalize (unC x : Int) = C1 at *
      clear hu k1 k2 HX
      go_wp2_with fail
      refine (HR3.out _).mono ?_
      rintro e w' ⟨rfl, rfl⟩
      clear HR3
      go_wp2_with fail
      go_ret
      exact ⟨rfl, B3.out⟩
    | false =>
      rw [if_neg (by simp)]
      obtain ⟨e0, e1, e2, e3⟩ := HX.out
      by_cases hm : unM x = MK
      · have HR3 := Lib.hid (fun V => rword_raw3 x hm hu V)
        rw [hm] at e0
        have d0 : (u x / 16777216 == 440005911841) = true := by rw [e0, mk_int]; exact beq_self_eq_true _
        clear hu hm e0 e1 e2 e3 HX
        go_wp2_with fail
        refine (HR3.out _).mono ?_
        rintro e w' ⟨rfl, rfl⟩
        clear HR3
        go_wp2_with fail
        go_ret
        exact ⟨rfl, B3.out⟩
      · have d0 : (u x / 16777216 == 440005911841) = false := by
          rw [e0, mk_int, beq_eq_false_iff_ne]
          exact fun e => hm (Int.ofNat.inj e)
        clear hu hm e0 e1 e2 e3 HX
        go_wp2_with fail
        go_ret
        exact ⟨rfl, B3.out⟩
end Go.Proofs.YtaelfgdiboekpaaDoor.Ns
