/-
  The walk of the statement on rows of fields that are apart.
-/
import Derived.Test.YtlkphjbnjeelaaaRowsNo
namespace Go.Proofs.Ytlkphjbnjeelaaa
open Go.RowKit

theorem keep2 {B : Nat} {W w2 : World} {p1 p2 : Addr} {v1 v2 : Value} (hb : Below B W w2) (h : W.cell? p1 = some v1 ∧ W.cell? p2 = some v2) (b1 : p1.block < B) (b2 : p2.block < B) :
    w2.cell? p1 = some v1 ∧ w2.cell? p2 = some v2 := ⟨(hb.cell b1).trans h.1, (hb.cell b2).trans h.2⟩
theorem cell_up {W w2 : World} {b o : Nat} {v : Value} (hb : Below W.heap.size W w2) (h : W.cell? ⟨b, o, none⟩ = some v) (hlt : b < W.heap.size) : w2.cell? ⟨b, o, none⟩ = some v :=
  (hb.cell (p := ⟨b, o, none⟩) hlt).trans h
theorem packV_none {l : List (Int × Int)} {vs : List (BitVec 64)} (h : packB l vs = none) : packV l vs = .tuple #[.int .u64 0, .bool false] := by unfold packV; rw [h]
theorem packV_some {l : List (Int × Int)} {vs : List (BitVec 64)} {y : BitVec 64} (h : packB l vs = some y) : packV l vs = .tuple #[.int .u64 (u y), .bool true] := by unfold packV; rw [h]
theorem packB_back {l : List (Int × Int)} {vs : List (BitVec 64)} {y : BitVec 64} (h : packB l vs = some y) (k : Nat) (hk : k < l.length) : getL y l k = .int .u64 (u (vs.getD k 0#64)) := by
  unfold packB at h
  by_cases hc : l.length = vs.length ∧ apartGo 0#64 l = true
  · rw [if_pos hc] at h
    have e := pack_back l vs _ y _ hc.2 h hc.1 k (l.getD k (0, 0)) (vs.getD k 0#64) (by rw [List.getD_eq_getElem?_getD, List.getElem?_eq_getElem hk]; rfl) (by rw [List.getD_eq_getElem?_getD, List.getElem?_eq_getElem (by omega : k < vs.length)]; rfl)
    rw [getL, e]
  · rw [if_neg hc] at h; cases h

set_option maxRecDepth 100000 in
set_option maxHeartbeats 6000000 in
theorem rows_un (b off : Nat) (V : Option Addr) (l : List (Int × Int)) (vs : List (BitVec 64)) (c d : Nat) (x : BitVec 64) (w : World) (hb : b < w.heap.size) (hf : FAt w b off l) (hv : WS w.heap.size w V vs) (hl : l.length ≤ 70) (hm : vs.length ≤ 70) (ha : apartGo 0#64 l = true) (hp : packB l vs = none) :
    Calls Try.prog 5 #[.slice (some ⟨b, off, none⟩) l.length c, .slice V vs.length d, .int .u64 (u x)] w fun e w' => e = .returned (.bool true) ∧ Below w.heap.size w w' := by
  have HVS := Lib.hid hv
  clear hv
  have h1' : decide (70 < (l.length : Int)) = false := by simp; omega
  have h2' : decide (70 < (vs.length : Int)) = false := by simp; omega
  have HF := Lib.hid hf
  have HA := Lib.hid ha
  have HP := Lib.hid hp
  have FSA : Hid (FS w.heap.size w (some ⟨b, off, none⟩) l) := fun _ => ⟨b, off, rfl, hb, hf⟩
  clear hf ha hp
  go_enter Try.func5, Try.ntmps5
  go_wp2_with fail
  refine (alive_any _).mono ?_
  rintro e w1 ⟨rfl, B1⟩
  go_wp2_with fail
  refine (of_any _ l c _ ((FSA.out.below B1).more B1.size) hl).mono ?_
  rintro e w2 ⟨g2, cap2, rfl, hg2, hf2, hb2⟩
  have HF2 := Lib.hid hf2
  have B2 := up_trans B1 hb2
  clear hf2 hb2 B1
  go_wp2_with fail
  refine (rapart_any _ l cap2 _ (fun _ => ⟨g2, 0, rfl, hg2, HF2.out⟩) hl).mono ?_
  rintro e w3 ⟨rfl, hb3⟩
  have B3 := up_trans B2 hb3
  rw [HA.out]
  clear hb3 B2 hg2 HF2
  go_wp2_with fail
  refine (pack_any _ V l vs c d _ ((FSA.out.below B3).more B3.size) ((HVS.out.below B3).more B3.size) hl).mono ?_
  rintro e w4 ⟨rfl, hb4⟩
  have B4 := up_trans B3 hb4
  rw [packV_none HP.out]
  clear hb4 B3
  go_wp2_with fail
  refine (of_any _ l c _ ((FSA.out.below B4).more B4.size) hl).mono ?_
  rintro e w5 ⟨g5, cap5, rfl, hg5, hf5, hb5⟩
  have HF5 := Lib.hid hf5
  have B5 := up_trans B4 hb5
  clear hf5 hb5 B4
  go_wp2_with fail
  refine (rpack_any _ V l vs cap5 d _ (fun _ => ⟨g5, 0, rfl, hg5, HF5.out⟩) ((HVS.out.below B5).more B5.size) hl).mono ?_
  rintro e w6 ⟨rfl, hb6⟩
  have B6 := up_trans B5 hb6
  rw [packV_none HP.out]
  clear hb6 B5 hg5 HF5
  go_wp2_with fail
  refine (unpack_yes x _ l c _ ((FSA.out.below B6).more B6.size) hl HA.out).mono ?_
  rintro e w7 ⟨g7, rfl, _, hr7, hb7⟩
  have HR7 := Lib.hid hr7
  have hg7 := hr7.lt
  have B7 := up_trans B6 hb7
  clear hb7 B6 hr7
  go_wp2_with fail
  refine (apart_any _ l c _ ((FSA.out.below B7).more B7.size) hl).mono ?_
  rintro e w8 ⟨rfl, hb8⟩
  have B8 := up_trans B7 hb8
  have HR8 : Hid (w8.rowIs g7 22 l.length (getL x l)) := HR7.out.of_block (hb8.block g7 hg7)
  have hg8 : g7 < w8.heap.size := HR8.out.lt
  have hb8' : b < w8.heap.size := by have := B8.size; omega
  have HF8 := Lib.hid (HF.out.below hb B8)
  rw [HA.out]
  clear hb8 B7 HR7 hg7
  go_wp2
  go_loopw [14] (fun i wr => ∃ k : Nat, k ≤ l.length ∧ i = .int .i64 k ∧ Below w8.heap.size w8 wr) (fun i _ => l.length - (intOf i).toNat)
  case atStart => exact ⟨0, by omega, rfl, Below.refl _ _⟩
  case round =>
    obtain ⟨k, hk, rfl, hbel⟩ := hrel
    by_cases hlt : k < l.length
    · obtain ⟨q1, q2⟩ := (HF8.out.below hb8' hbel) k hlt
      have hsz := hbel.size
      have hbw : b < wr.heap.size := by omega
      have hgw : g7 < wr.heap.size := by omega
      have hk0 : (0 : Int) ≤ (k : Int) := Int.natCast_nonneg _
      have hk1 : (k : Int) < (l.length : Int) := by omega
      have hrt : fr (l.getD k (0, 0)) = true := (apart_all l _ HA.out _ (by rw [List.getD_eq_getElem?_getD, List.getElem?_eq_getElem hlt]; exact List.getElem_mem hlt)).1
      have q3 := cell_up hbel (HR8.out.cell hlt) hg8
      obtain ⟨s, hs⟩ : ∃ s, (l.getD k (0, 0)).1 = s := ⟨_, rfl⟩
      obtain ⟨m, hn⟩ : ∃ m, (l.getD k (0, 0)).2 = m := ⟨_, rfl⟩
      rw [getL] at q3
      rw [hs] at q1 q3
      rw [hn] at q2 q3
      have hpr : l.getD k (0, 0) = (s, m) := by rw [← hs, ← hn]
      rw [hpr] at hrt
      obtain ⟨i0, i1, i2, i3⟩ := rightB_iff.1 hrt
      clear hs hn hrt hpr
      obtain ⟨S, rfl⟩ := Int.eq_ofNat_of_zero_le i2
      obtain ⟨N, rfl⟩ := Int.eq_ofNat_of_zero_le (by omega : 0 ≤ m)
      have q3' : wr.cell? ⟨g7, k, none⟩ = some (.int .u64 (u (getW x S N))) := q3
      clear q3
      go_wp2_with fail
      go_region_held3 (fun w' => w'.cell? ⟨b, off + k * 2, none⟩ = some (.int .i64 S) ∧ w'.cell? ⟨b, off + k * 2 + 1, none⟩ = some (.int .i64 N))
        (first | exact keep2 hb9 (by simp [go_sem, q1, q2]) (by simp; omega) (by simp; omega) | simp [go_sem, q1, q2])
        ((go_at_call 9; refine (rget_yes _ _ _ _ (by omega) (by omega)).mono ?_; rintro e w9 ⟨rfl, hb9⟩; have hc9 := cell_up hb9 (b := g7) (o := k) (v := .int .u64 (u (getW x S N))) (by simp [go_sem, q3']) (by simp; omega)))
      go_wp2
      go_roundw
      case rel => exact ⟨k + 1, by omega, by go_num, hbel.drew.trans (hb9.mono (by simp <;> omega))⟩
      case measure => simp [intOf]; omega
    · obtain rfl : k = l.length := by omega
      go_wp2
      go_ret
      exact ⟨rfl, B8.trans (hbel.mono B8.size)⟩

set_option maxRecDepth 100000 in
set_option maxHeartbeats 6000000 in
theorem rows_ok (b off vb voff : Nat) (l : List (Int × Int)) (vs : List (BitVec 64)) (c d : Nat) (x y : BitVec 64) (w : World) (hb : b < w.heap.size) (hf : FAt w b off l) (hvb : vb < w.heap.size) (hv : WAt w vb voff vs) (hne : l.length = vs.length) (hl : l.length ≤ 70) (hm : vs.length ≤ 70) (ha : apartGo 0#64 l = true) (hp : packB l vs = some y) :
    Calls Try.prog 5 #[.slice (some ⟨b, off, none⟩) l.length c, .slice (some ⟨vb, voff, none⟩) vs.length d, .int .u64 (u x)] w fun e w' => e = .returned (.bool true) ∧ Below w.heap.size w w' := by
  have HVS : Hid (WS w.heap.size w (some ⟨vb, voff, none⟩) vs) := fun _ => ⟨vb, voff, rfl, hvb, hv⟩
  have HV := Lib.hid hv
  have HE := Lib.hid hne
  obtain ⟨n, hn⟩ : ∃ n, vs.length = n := ⟨_, rfl⟩
  have HN := Lib.hid hn
  rw [hn] at hm ⊢
  have hln : l.length = n := hne.trans hn
  have HLN := Lib.hid hln
  clear hv hne hn
  have h1' : decide (70 < (l.length : Int)) = false := by simp; omega
  have h2' : decide (70 < (n : Int)) = false := by simp; omega
  clear hln
  have HF := Lib.hid hf
  have HA := Lib.hid ha
  have HP := Lib.hid hp
  have FSA : Hid (FS w.heap.size w (some ⟨b, off, none⟩) l) := fun _ => ⟨b, off, rfl, hb, hf⟩
  clear hf ha hp
  go_enter Try.func5, Try.ntmps5
  go_wp2_with fail
  refine (alive_any _).mono ?_
  rintro e w1 ⟨rfl, B1⟩
  go_wp2_with fail
  refine (of_any _ l c _ ((FSA.out.below B1).more B1.size) hl).mono ?_
  rintro e w2 ⟨g2, cap2, rfl, hg2, hf2, hb2⟩
  have HF2 := Lib.hid hf2
  have B2 := up_trans B1 hb2
  clear hf2 hb2 B1
  go_wp2_with fail
  refine (rapart_any _ l cap2 _ (fun _ => ⟨g2, 0, rfl, hg2, HF2.out⟩) hl).mono ?_
  rintro e w3 ⟨rfl, hb3⟩
  have B3 := up_trans B2 hb3
  rw [HA.out]
  clear hb3 B2 hg2 HF2
  go_wp2_with fail
  have g4 := (pack_any (some ⟨b, off, none⟩) (some ⟨vb, voff, none⟩) l vs c d w3 ((FSA.out.below B3).more B3.size) ((HVS.out.below B3).more B3.size) hl)
  rw [HN.out] at g4
  refine g4.mono ?_
  clear g4
  rintro e w4 ⟨rfl, hb4⟩
  have B4 := up_trans B3 hb4
  rw [packV_some HP.out]
  clear hb4 B3
  go_wp2_with fail
  refine (of_any _ l c _ ((FSA.out.below B4).more B4.size) hl).mono ?_
  rintro e w5 ⟨g5, cap5, rfl, hg5, hf5, hb5⟩
  have HF5 := Lib.hid hf5
  have B5 := up_trans B4 hb5
  clear hf5 hb5 B4
  go_wp2_with fail
  have g6 := (rpack_any (some ⟨g5, 0, none⟩) (some ⟨vb, voff, none⟩) l vs cap5 d w5 (fun _ => ⟨g5, 0, rfl, hg5, HF5.out⟩) ((HVS.out.below B5).more B5.size) hl)
  rw [HN.out] at g6
  refine g6.mono ?_
  clear g6
  rintro e w6 ⟨rfl, hb6⟩
  have B6 := up_trans B5 hb6
  rw [packV_some HP.out]
  clear hb6 B5 hg5 HF5
  go_wp2_with fail
  refine (unpack_yes x _ l c _ ((FSA.out.below B6).more B6.size) hl HA.out).mono ?_
  rintro e w7 ⟨g7, rfl, _, hr7, hb7⟩
  have HR7 := Lib.hid hr7
  have hg7 := hr7.lt
  have B7 := up_trans B6 hb7
  clear hb7 B6 hr7
  go_wp2_with fail
  refine (apart_any _ l c _ ((FSA.out.below B7).more B7.size) hl).mono ?_
  rintro e w8 ⟨rfl, hb8⟩
  have B8 := up_trans B7 hb8
  have HR8 : Hid (w8.rowIs g7 22 l.length (getL x l)) := HR7.out.of_block (hb8.block g7 hg7)
  have hg8 : g7 < w8.heap.size := HR8.out.lt
  have hb8' : b < w8.heap.size := by have := B8.size; omega
  have HF8 := Lib.hid (HF.out.below hb B8)
  rw [HA.out]
  clear hb8 B7 HR7 hg7
  go_wp2
  go_loopw [14] (fun i wr => ∃ k : Nat, k ≤ l.length ∧ i = .int .i64 k ∧ Below w8.heap.size w8 wr) (fun i _ => l.length - (intOf i).toNat)
  case atStart => exact ⟨0, by omega, rfl, Below.refl _ _⟩
  case round =>
    obtain ⟨k, hk, rfl, hbel⟩ := hrel
    by_cases hlt : k < l.length
    · obtain ⟨q1, q2⟩ := (HF8.out.below hb8' hbel) k hlt
      have hsz := hbel.size
      have hbw : b < wr.heap.size := by omega
      have hgw : g7 < wr.heap.size := by omega
      have hk0 : (0 : Int) ≤ (k : Int) := Int.natCast_nonneg _
      have hk1 : (k : Int) < (l.length : Int) := by omega
      have hrt : fr (l.getD k (0, 0)) = true := (apart_all l _ HA.out _ (by rw [List.getD_eq_getElem?_getD, List.getElem?_eq_getElem hlt]; exact List.getElem_mem hlt)).1
      have q3 := cell_up hbel (HR8.out.cell hlt) hg8
      obtain ⟨s, hs⟩ : ∃ s, (l.getD k (0, 0)).1 = s := ⟨_, rfl⟩
      obtain ⟨m, hn⟩ : ∃ m, (l.getD k (0, 0)).2 = m := ⟨_, rfl⟩
      rw [getL] at q3
      rw [hs] at q1 q3
      rw [hn] at q2 q3
      have hpr : l.getD k (0, 0) = (s, m) := by rw [← hs, ← hn]
      rw [hpr] at hrt
      obtain ⟨i0, i1, i2, i3⟩ := rightB_iff.1 hrt
      clear hs hn hrt hpr
      obtain ⟨S, rfl⟩ := Int.eq_ofNat_of_zero_le i2
      obtain ⟨N, rfl⟩ := Int.eq_ofNat_of_zero_le (by omega : 0 ≤ m)
      have q3' : wr.cell? ⟨g7, k, none⟩ = some (.int .u64 (u (getW x S N))) := q3
      clear q3
      go_wp2_with fail
      go_region_held3 (fun w' => w'.cell? ⟨b, off + k * 2, none⟩ = some (.int .i64 S) ∧ w'.cell? ⟨b, off + k * 2 + 1, none⟩ = some (.int .i64 N))
        (first | exact keep2 hb9 (by simp [go_sem, q1, q2]) (by simp; omega) (by simp; omega) | simp [go_sem, q1, q2])
        ((go_at_call 9; refine (rget_yes _ _ _ _ (by omega) (by omega)).mono ?_; rintro e w9 ⟨rfl, hb9⟩; have hc9 := cell_up hb9 (b := g7) (o := k) (v := .int .u64 (u (getW x S N))) (by simp [go_sem, q3']) (by simp; omega)))
      go_wp2
      go_roundw
      case rel => exact ⟨k + 1, by omega, by go_num, hbel.drew.trans (hb9.mono (by simp <;> omega))⟩
      case measure => simp [intOf]; omega
    · obtain rfl : k = l.length := by omega
      have B9 := B8.trans (hbel.mono B8.size)
      clear hbel HF8 HR8
      go_wp2_with fail
      refine (unpack_yes y _ l c _ ((FSA.out.below B9).more B9.size) hl HA.out).mono ?_
      rintro e w10 ⟨g10, rfl, _, hr10, hb10⟩
      have HR10 := Lib.hid hr10
      have hg10 := hr10.lt
      have B10 := up_trans B9 hb10
      have hvb10 : vb < w10.heap.size := by have := B10.size; omega
      have HV10 := Lib.hid (HV.out.below hvb B10)
      have hd : ((l.length : Int) != (n : Int)) = false := by rw [HLN.out]; simp
      clear hb10 B9 hr10
      go_wp2
      go_loopw [19] (fun i wr => ∃ k : Nat, k ≤ l.length ∧ i = .int .i64 k ∧ Below w10.heap.size w10 wr) (fun i _ => l.length - (intOf i).toNat)
      case atStart => exact ⟨0, by omega, rfl, Below.refl _ _⟩
      case round =>
        obtain ⟨k, hk, rfl, hbel⟩ := hrel
        by_cases hlt : k < l.length
        · have hkn : k < n := by have := HLN.out; omega
          have r1 := cell_up hbel (HR10.out.cell hlt) hg10
          rw [packB_back HP.out k hlt] at r1
          have r2 := (HV10.out.below hvb10 hbel) k (by rw [HN.out]; exact hkn)
          have hk0 : (0 : Int) ≤ (k : Int) := Int.natCast_nonneg _
          have hk1 : (k : Int) < (l.length : Int) := by omega
          have hk2 : (k : Int) < (n : Int) := by omega
          obtain ⟨v, hv⟩ : ∃ v, vs.getD k 0#64 = v := ⟨_, rfl⟩
          rw [hv] at r1 r2
          clear hv
          go_wp2_with fail
          go_quiet (fail)
          go_wp2
          go_roundw
          case rel => exact ⟨k + 1, by omega, by go_num, up_drew hbel _⟩
          case measure => simp [intOf]; omega
        · obtain rfl : k = l.length := by omega
          go_wp2
          go_ret
          exact ⟨rfl, B10.trans (hbel.mono B10.size)⟩

end Go.Proofs.Ytlkphjbnjeelaaa
