/-
  The law on set and clear bits, walked: a contract that the claimed proof uses.
-/
import Derived.Test.YthleflfljomeiaaDoorDo
namespace Go.Proofs.YthleflfljomeiaaDoor
open Go.RowKit

theorem do_any (q g gl B : Nat) (l : List Bool) (ws : List (BitVec 64)) (A : Option Addr) (cs : List (Bool × Int)) (c : Nat) (w : World) (hm : Bits w q g l ws) (hl : Blk w gl (brow l) 4) (hB : B ≤ g) (hB2 : B ≤ gl) (hBw : B ≤ w.heap.size) (hne : gl ≠ g) (hql : q ≠ gl)
    (hc : CA B w A cs) (hlen : cs.length ≤ 300) :
    Calls Tryd.prog 8 #[.pointer (some ⟨q, 0, none⟩), .slice (some ⟨gl, 0, none⟩) l.length l.length, .slice A cs.length c] w (Done q g gl B (after l cs cs.length) w) := by
  rcases Nat.eq_zero_or_pos cs.length with h0 | hp
  · rw [h0]
    refine (do_none q A (some ⟨gl, 0, none⟩) l.length c l.length w).mono ?_
    rintro e w' ⟨rfl, rfl⟩
    exact ⟨rfl, ⟨ws, hm⟩, hl, Below.refl _ _, Nat.le_refl _, fun _ _ _ _ => rfl⟩
  · obtain ⟨b, o, rfl, hb, hcells⟩ := hc hp
    exact do_some q g gl B b o l ws cs c w hm hl hB hB2 hBw hne hql hb hcells hlen

theorem first_here {l : List Bool} {k : Nat} (h : k < l.length) : first l k (bt l k) = k := isFirst_one (isFirst_first _ _ _) (Or.inr ⟨k, rfl, Nat.le_refl _, h, rfl, fun j h1 h2 => by omega⟩)
theorem first_other {l : List Bool} {k : Nat} {b : Bool} (h : bt l k ≠ b) : first l k b ≠ k := by
  intro e
  rcases isFirst_first l k b with ⟨h1, _⟩ | ⟨j, h1, h2, h3, h4, _⟩
  · rw [h1] at e; omega
  · rw [h1] at e
    obtain rfl : j = k := by omega
    exact h h4
theorem first_end {l : List Bool} {k : Nat} {b : Bool} (h : l.length ≤ k) : first l k b = -1 := isFirst_one (isFirst_first _ _ _) (Or.inl ⟨rfl, fun j h1 h2 => by omega⟩)
theorem sets_at {l : List Bool} {k : Nat} (h : k < l.length) (hb : bt l k = true) : (sets l)[(on (bt l) k).length]? = some k := by
  obtain ⟨r, hr⟩ := on_le (bt l) (show k + 1 ≤ l.length by omega)
  unfold sets
  rw [hr, on_succ, hb, if_pos rfl, List.append_assoc, List.getElem?_append_right (Nat.le_refl _), Nat.sub_self]; rfl
theorem brow_none (n : Nat) : List.replicate n (Value.bool false) = brow (List.replicate n false) := by simp [brow]
/-- What a law's beginning leaves: a row that has been told calls. -/
def Begun (q g gl : Nat) (l : List Bool) (w w' : World) : Prop := (∃ ws, Bits w' q g l ws) ∧ Blk w' gl (brow l) 4 ∧ Below w.heap.size w w' ∧ Tab w'

theorem mates_out (n : Int) (A : Option Addr) (m c : Nat) (w : World) (hT : Tab w) (h : n < 0 ∨ 600 < n ∨ 300 < m) :
    Calls Tryd.prog 5 #[.int .i64 n, .slice A m c] w fun e w' => e = .returned (.bool true) ∧ Below w.heap.size w w' := by
  have ha := alive_any w hT
  have HA := Lib.hid ha
  clear ha hT
  by_cases h0 : n < 0
  · have hd : decide (n < 0) = true := by simpa using h0
    go_enter Tryd.func5, Tryd.ntmps5
    go_wp2_with fail
    refine HA.out.mono ?_; rintro e w1 ⟨rfl, hb⟩
    go_wp2
    go_ret
    exact ⟨rfl, hb⟩
  · have hd : decide (n < 0) = false := by simpa using h0
    by_cases h1 : 600 < n
    · have hd1 : decide (600 < n) = true := by simpa using h1
      go_enter Tryd.func5, Tryd.ntmps5
      go_wp2_with fail
      refine HA.out.mono ?_; rintro e w1 ⟨rfl, hb⟩
      go_wp2
      go_ret
      exact ⟨rfl, hb⟩
    · have hd1 : decide (600 < n) = false := by simpa using h1
      have hd2 : decide (300 < (m : Int)) = true := by simp; omega
      go_enter Tryd.func5, Tryd.ntmps5
      go_wp2_with fail
      refine HA.out.mono ?_; rintro e w1 ⟨rfl, hb⟩
      go_wp2
      go_ret
      exact ⟨rfl, hb⟩
set_option maxRecDepth 100000 in
set_option maxHeartbeats 4000000 in
theorem mates_in (n : Nat) (A : Option Addr) (cs : List (Bool × Int)) (c : Nat) (w : World) (hT : Tab w) (hn : n ≤ 600) (hm : cs.length ≤ 300) (hca : CA w.heap.size w A cs) :
    Calls Tryd.prog 5 #[.int .i64 (n : Int), .slice A cs.length c] w fun e w' => e = .returned (.bool true) ∧ Below w.heap.size w w' := by
  have ha := alive_any w hT
  have HA := Lib.hid ha
  have HT := Lib.hid hT
  have HCA := Lib.hid hca
  have hpos := hT.lt
  have hd : decide ((n : Int) < 0) = false := by simp
  have hd1 : decide (600 < (n : Int)) = false := by simp; omega
  clear ha hT hca
  obtain ⟨m, hmm⟩ : ∃ m, cs.length = m := ⟨_, rfl⟩
  have HMM := Lib.hid hmm
  rw [hmm] at hm ⊢
  have hd2 : decide (300 < (m : Int)) = false := by simp; omega
  clear hmm
  have hmk := make_bools n (by omega)
  go_enter Tryd.func5, Tryd.ntmps5
  go_wp2_with fail
  refine HA.out.mono ?_; rintro e w1 ⟨rfl, hb1⟩
  have B1 := Lib.hid hb1
  have z1 := hb1.size
  clear hb1
  go_wp2_with fail
  refine (new_yes n (by omega) w1 (by omega)).mono ?_
  rintro e w2 ⟨rfl, hm2, hb2, hs2⟩
  have B2 := Lib.hid hb2
  have M2 := Lib.hid hm2
  have z2 : w1.heap.size + 2 ≤ w2.heap.size := by omega
  clear hb2 hm2 hs2
  go_wp2_with fail
  have hbl := Blk.made w2 (.bool false) n 4
  rw [brow_none] at hbl
  have b3 : Below w2.heap.size w2 (w2.alloc (.cells (madeCells #[.bool false] n) 4)) := up_alloc (Below.refl _ _) _
  have hdo := do_any (w1.heap.size + 1) w1.heap.size w2.heap.size w1.heap.size (List.replicate n false) _ A cs c _ (M2.out.below b3) hbl (Nat.le_refl _) (by omega) (by have := b3.size; omega) (by omega) (by omega)
    ((HCA.out.below (up_trans B1.out B2.out |>.trans (b3.mono (by omega)))) |> fun h hp => by
      obtain ⟨b, o, e, h1, h2⟩ := h hp
      exact ⟨b, o, e, by omega, h2⟩) (by rw [HMM.out]; exact hm)
  rw [List.length_replicate, HMM.out] at hdo
  refine hdo.mono ?_
  obtain ⟨l, hl⟩ : ∃ l, after (List.replicate n false) cs m = l := ⟨_, rfl⟩
  have hll : l.length = n := by rw [← hl, after_length, List.length_replicate]
  rw [hl]
  rintro e w4 ⟨rfl, ⟨ws4, hm4⟩, _, hb4, hz4, _⟩
  have B4 := Lib.hid (up_trans B1.out (((B2.out.trans (b3.mono (by omega)))).trans hb4))
  have M4 := Lib.hid hm4
  have T4 := Lib.hid (HT.out.drop B4.out hpos)
  have HL := Lib.hid hll
  clear hdo hl hm4 hb4 b3 hbl hll
  go_wp2_with fail
  go_loopw [7, 8] (fun a c wr => ∃ k x : Nat, k ≤ n ∧ x ≤ k ∧ a = .int .i64 k ∧ c = .int .i64 x ∧ x = (on (bt l) k).length ∧ Drawn w4 wr) (fun a _ _ => n - (intOf a).toNat)
  case atStart => exact ⟨0, 0, by omega, by omega, rfl, rfl, rfl, Drawn.refl _⟩
  case round =>
    obtain ⟨k, x, hk, hxk, rfl, rfl, hx, hdr⟩ := hrel
    have HX := Lib.hid hx
    have HD := Lib.hid hdr
    have MR := Lib.hid (M4.out.below hdr.below)
    have TR := Lib.hid (T4.out.below hdr.below)
    clear hx hdr
    by_cases hlt : k < n
    · have hkl : k < l.length := by rw [HL.out]; exact hlt
      have c1 := first_any _ _ (k : Int) _ _ true wr MR.out TR.out
      have c2 := first_any _ _ (k : Int) _ _ false wr MR.out TR.out
      have c3 := test_any _ _ _ _ (k : Int) wr MR.out
      rw [Int.toNat_natCast] at c1 c2
      rw [tst_nat, show l.getD k false = bt l k from rfl] at c3
      have k1 : (0 : Int) ≤ (k : Int) := by omega
      have k2 : (k : Int) < (n : Int) := by omega
      have hda : decide ((0 : Int) ≤ (k : Int)) = true := by simp
      have hdb : decide ((k : Int) < (n : Int)) = true := by simpa using k2
      cases hbk : bt l k
      · have f1 := first_other (l := l) (k := k) (b := true) (by rw [hbk]; simp)
        have f2 := first_here hkl
        rw [hbk] at f2 c3
        obtain ⟨v, hv⟩ : ∃ v, first l k true = v := ⟨_, rfl⟩
        rw [hv] at c1 f1
        rw [f2] at c2
        have e1 : (v != (k : Int)) = true := by simpa using f1
        have e2 : (v == (k : Int)) = false := by simpa using f1
        have e3 : ((k : Int) != (k : Int)) = false := by simp
        have C1 := Lib.hid c1
        have C2 := Lib.hid c2
        have C3 := Lib.hid c3
        have HBK := Lib.hid hbk
        clear c1 c2 c3 hbk f1 f2 hv hkl
        go_wp2_with fail
        refine C1.out.mono ?_; rintro e w' ⟨rfl, rfl⟩
        go_wp2_with fail
        refine C2.out.mono ?_; rintro e w' ⟨rfl, rfl⟩
        go_wp2_with fail
        refine C3.out.mono ?_; rintro e w5 ⟨rfl, hd5⟩
        have HD5 := Lib.hid hd5
        clear hd5
        go_wp2
        go_roundw
        case rel => exact ⟨k + 1, x, by omega, by omega, by go_num, rfl, by rw [on_succ, HBK.out, HX.out]; simp, HD.out.trans HD5.out⟩
        case measure => simp [intOf]; omega
      · have f1 := first_other (l := l) (k := k) (b := false) (by rw [hbk]; simp)
        have f2 := first_here hkl
        rw [hbk] at f2 c3
        obtain ⟨v, hv⟩ : ∃ v, first l k false = v := ⟨_, rfl⟩
        rw [hv] at c2 f1
        rw [f2] at c1
        have e1 : ((k : Int) == v) = false := by simp; omega
        have e3 : ((k : Int) != (k : Int)) = false := by simp
        have e4 : ((k : Int) == (k : Int)) = true := by simp
        have C1 := Lib.hid c1
        have C2 := Lib.hid c2
        have C3 := Lib.hid c3
        have HS := Lib.hid (sets_at hkl hbk)
        have HBK := Lib.hid hbk
        clear c1 c2 c3 hbk f1 f2 hv hkl
        go_wp2_with fail
        refine C1.out.mono ?_; rintro e w' ⟨rfl, rfl⟩
        go_wp2_with fail
        refine C2.out.mono ?_; rintro e w' ⟨rfl, rfl⟩
        go_wp2_with fail
        refine C3.out.mono ?_; rintro e w5 ⟨rfl, hd5⟩
        have HD5 := Lib.hid hd5
        have c4 := nth_any _ _ _ _ (x : Int) w5 (MR.out.below hd5.below) (TR.out.below hd5.below) (by omega)
        rw [nthI_some (k := k) (by rw [HX.out]; exact HS.out)] at c4
        have C4 := Lib.hid c4
        clear hd5 c4
        go_wp2_with fail
        refine C4.out.mono ?_; rintro e w' ⟨rfl, rfl⟩
        go_wp2
        go_roundw
        case rel => exact ⟨k + 1, x + 1, by omega, by omega, by go_num, by go_num, by rw [on_succ, HBK.out, HX.out]; simp, HD.out.trans HD5.out⟩
        case measure => simp [intOf]; omega
    · obtain rfl : k = n := by omega
      have c1 := count_any _ _ _ _ wr MR.out
      have c2 := nth_any _ _ _ _ (x : Int) wr MR.out TR.out (by omega)
      have c3 := first_any _ _ (k : Int) _ _ true wr MR.out TR.out
      have hxs : x = (sets l).length := by rw [HX.out, ← HL.out]; rfl
      rw [← hxs] at c1
      rw [nthI_none (by omega)] at c2
      rw [Int.toNat_natCast, first_end (by rw [HL.out]; exact Nat.le_refl _)] at c3
      have C1 := Lib.hid c1
      have C2 := Lib.hid c2
      have C3 := Lib.hid c3
      have e3 : ((x : Int) == (x : Int)) = true := by simp
      have hdb : decide ((k : Int) < (k : Int)) = false := by simp
      clear c1 c2 c3 hxs
      go_wp2_with fail
      refine C1.out.mono ?_; rintro e w' ⟨rfl, rfl⟩
      go_wp2_with fail
      refine C2.out.mono ?_; rintro e w' ⟨rfl, rfl⟩
      go_wp2_with fail
      refine C3.out.mono ?_; rintro e w' ⟨rfl, rfl⟩
      go_wp2
      go_ret
      exact ⟨rfl, up_trans B4.out HD.out.below⟩
end Go.Proofs.YthleflfljomeiaaDoor
