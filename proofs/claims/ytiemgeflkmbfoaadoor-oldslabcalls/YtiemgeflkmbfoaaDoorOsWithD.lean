/-
  How the document's slab is made of slots: a contract that the claimed proof uses.
-/
import Derived.Test.YtiemgeflkmbfoaaDoorOsCopy
namespace Go.Proofs.YtiemgeflkmbfoaaDoor.Os
set_option maxRecDepth 100000
open Go.RowKit
open Ta (sz szs classB classB_iff classB_not sizeOf' slotsOf)
open Bi (sets bt on first setL setB tst hasB u Blk Drawn grown_refl grown_trans grown_below up_alloc up_drew up_trans i64_in ret_i ret_b brow)

section
variable {w w' w2 : World} {b c : Int} {A : Option Addr} {n cap : Nat} {xs : List Int}
def GaveWd (b c : Int) (xs : List Int) (w : World) (e : Ending) (w' : World) : Prop :=
  Below w.heap.size w w' ∧ ((wiB (l0 c) xs = true ∧ ∃ R gl, e = .returned (.tuple #[.pointer (some ⟨R, 0, none⟩), .int .i64 0]) ∧ Rd w' R gl b c (wiS (l0 c) xs) ∧ w.heap.size ≤ R ∧ w.heap.size ≤ gl) ∨
    (wiB (l0 c) xs = false ∧ e = .returned (.tuple #[.pointer none, .int .i64 10])))
theorem dwith_no (h : (baseB b && classB c) = false) : Calls Tryd.prog 11 #[.int .i64 b, .int .i64 0, .int .i64 c, .int .i64 1048576, .slice A n cap] w fun e w' => e = .returned (.tuple #[.pointer none, .int .i64 11]) ∧ Below w.heap.size w w' := by
  have HN := Lib.hid (rnew_no (w := w) h)
  clear h
  go_enter Tryd.func11, Tryd.ntmps11
  go_wp2_with (go_at_call 13; refine HN.out.mono ?_; rintro e w1 ⟨rfl, b1⟩; have B1 := Lib.hid b1; clear b1)
  go_ret2
  exact ⟨rfl, B1.out⟩
set_option maxHeartbeats 4000000 in
theorem dwith_yes (hA : At w.heap.size w A (ints xs)) (hn : xs.length = n) (hn2 : n ≤ 1048576) (hb : baseB b = true) (hc : classB c = true) :
    Calls Tryd.prog 11 #[.int .i64 b, .int .i64 0, .int .i64 c, .int .i64 1048576, .slice A n cap] w (GaveWd b c xs w) := by
  have HN := Lib.hid (dnew_yes (w := w) hb hc)
  unfold GaveD at HN
  have HA := Lib.hid hA
  have HX := Lib.hid hn
  obtain ⟨_, _, _, hnn, _⟩ := cls hc
  clear hA hn hb hc
  go_enter Tryd.func11, Tryd.ntmps11
  go_wp2_with fail
  refine HN.out.mono ?_
  rintro e w1 ⟨b1, R, gl, rfl, r1, hR, hg⟩
  have B1 := Lib.hid b1
  have R1 := Lib.hid r1
  clear b1 r1 HN
  go_wp2_with fail
  go_loopw [14] (fun i wr => ∃ (k : Nat) (l : List Bool), k ≤ n ∧ i = .int .i64 k ∧ Rd wr R gl b c l ∧ wiB (l0 c) xs = wiB l (xs.drop k) ∧ wiS (l0 c) xs = wiS l (xs.drop k) ∧ Below w.heap.size w wr) (fun i _ => n - (intOf i).toNat)
  case atStart => exact ⟨0, _, by omega, rfl, R1.out, by rw [List.drop_zero], by rw [List.drop_zero], B1.out⟩
  case round =>
    obtain ⟨k, l, hk, rfl, hd, h1, h2, hbel⟩ := hrel
    have HD := Lib.hid hd
    have H1 := Lib.hid h1
    have H2 := Lib.hid h2
    have HB := Lib.hid hbel
    obtain ⟨cp, c3⟩ := hd.c3
    have hl := hd.len_le.2
    have HBt := Lib.hid (fun (i : Nat) (hi : i < l.length) => hd.bit hi)
    have HSet := Lib.hid (fun (i : Nat) (hi : i < l.length) => hd.set (k := i) true hi)
    have HFz := Lib.hid (fun (i : Nat) => hd.frozen i)
    clear hd h1 h2 hbel
    by_cases hlt : k < n
    · have hkl : k < xs.length := by rw [HX.out]; exact hlt
      obtain ⟨ab, ao, hae, _, q0⟩ := (HA.out.below HB.out).int hkl
      subst hae
      have HDr : Hid (xs.drop k = xs[k] :: xs.drop (k + 1)) := List.drop_eq_getElem_cons hkl
      obtain ⟨x, hx⟩ : ∃ x, xs[k] = x := ⟨_, rfl⟩
      rw [hx] at q0 HDr
      have j1 : (0 : Int) ≤ (k : Int) := by omega
      have j2 : (k : Int) < (n : Int) := by omega
      have hlt2 : decide ((k : Int) < (n : Int)) = true := by simpa using hlt
      clear hx hkl
      by_cases hn0 : x < 0
      · have d0 : decide (x < 0) = true := by simpa using hn0
        have HQ : Hid (setB l x true = false) := by show _ = _; unfold setB; rw [Bi.hasB_not.2 (by omega)]; rfl
        clear hn0
        go_wp2_with fail
        go_ret2
        exact ⟨HB.out, .inr ⟨by rw [H1.out, HDr.out, wiB, HQ.out, Bool.false_and], rfl⟩⟩
      · have d0 : decide (x < 0) = false := by simpa using hn0
        obtain ⟨X, rfl⟩ := Int.eq_ofNat_of_zero_le (show 0 ≤ x by omega)
        obtain ⟨L, hL⟩ : ∃ L, l.length = L := ⟨_, rfl⟩
        have HLL := Lib.hid hL
        rw [hL] at c3 hl HBt HSet
        by_cases hX : X < L
        · have d1 : decide ((L : Int) ≤ (X : Int)) = false := by simp; omega
          have i1 : (0 : Int) ≤ (X : Int) := by omega
          have i2 : (X : Int) < (L : Int) := by omega
          have b0 := HBt.out X hX
          have f0 := HFz.out X
          have hs := HSet.out X hX
          have hsx : setL l (X : Int) true = l.set X true := setL_nat (by rw [hL]; exact hX) true
          have hsb : setB l (X : Int) true = !(bt l X) := by unfold setB; rw [Bi.hasB_iff.2 (by omega), Int.toNat_natCast]; unfold bt; cases l.getD X false <;> rfl
          cases hbt : bt l X with
          | true =>
            rw [hbt] at b0 hsb
            have HQ : Hid (setB l (X : Int) true = false) := hsb
            clear hbt hsb hs hL hsx
            go_wp2_with fail
            go_ret2
            exact ⟨HB.out, .inr ⟨by rw [H1.out, HDr.out, wiB, HQ.out, Bool.false_and], rfl⟩⟩
          | false =>
            rw [hbt] at b0 hsb
            have HQ : Hid (setB l (X : Int) true = true) := hsb
            have HSx := Lib.hid hsx
            obtain ⟨w2, hw2⟩ : ∃ w2, wr.setCell ⟨gl, X, none⟩ (.bool true) = w2 := ⟨_, rfl⟩
            rw [hw2] at hs
            have HS := Lib.hid hs
            have HW2 := Lib.hid hw2
            clear hbt hsb hs hL hsx hw2
            go_wp2_with fail
            go_roundw
            case rel =>
              rw [HW2.out]
              obtain ⟨g', r2, f2, e2⟩ := HS.out
              have hgg : wr.grownBy w2 (some gl) := by rw [← HW2.out]; exact Bi.grown_set (grown_refl _ _)
              have r3 : Rd w2 R gl b c (l.set X true) := by
                have hkd := HD.out.kinds
                obtain ⟨cap', h1⟩ := HD.out.blk
                obtain ⟨pad, h2⟩ := HD.out.row
                refine ⟨⟨cap', ?_⟩, ⟨pad, ?_⟩, HD.out.hb, HD.out.hc, by rw [List.length_set]; exact HD.out.len⟩
                · have := h1.far hgg (kne hkd.1 hkd.2 (by decide))
                  rw [List.length_set]; exact this
                · have := h2.set (i := X) (.bool true)
                  rw [List.set_append_left _ _ (by rw [brow_len, HLL.out]; exact hX), Bi.brow_set, HW2.out] at this
                  exact this
              exact ⟨k + 1, l.set X true, by omega, by go_num, r3, by rw [H1.out, HDr.out, wiB, HQ.out, Bool.true_and, HSx.out], by rw [H2.out, HDr.out, wiS, HSx.out], HB.out.grown hgg HB.out.size (fun g hg' => by cases hg'; exact hg)⟩
            case measure => simp [intOf]; omega
        · have d1 : decide ((L : Int) ≤ (X : Int)) = true := by simp; omega
          have HQ : Hid (setB l (X : Int) true = false) := by show _ = _; unfold setB; rw [Bi.hasB_not.2 (by rw [hL]; omega)]; rfl
          have d3 : L ≤ X := by omega
          have d4 : decide (L ≤ X) = true := by simpa using d3
          clear hL hX
          go_wp2_with fail
          go_ret2
          exact ⟨HB.out, .inr ⟨by rw [H1.out, HDr.out, wiB, HQ.out, Bool.false_and], rfl⟩⟩
    · obtain rfl : k = n := by omega
      have hD : xs.drop k = [] := List.drop_eq_nil_of_le (by rw [HX.out]; exact Nat.le_refl _)
      have HE : Hid (wiB (l0 c) xs = true ∧ wiS (l0 c) xs = l) := ⟨by rw [H1.out, hD]; rfl, by rw [H2.out, hD]; rfl⟩
      have hlt2 : decide ((k : Int) < (k : Int)) = false := by simp
      clear hD
      go_wp2_with fail
      go_ret2
      exact ⟨HB.out, .inl ⟨HE.out.1, R, gl, rfl, by rw [HE.out.2]; exact HD.out, hR, hg⟩⟩
end
end Go.Proofs.YtiemgeflkmbfoaaDoor.Os
