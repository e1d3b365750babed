/-
  What Do does to a row and to its list: a contract that the claimed proofs use.
-/
import Derived.Test.YthleflfljomeiaaDoorAlive
namespace Go.Proofs.YthleflfljomeiaaDoor
open Go.RowKit

/-- Calls that came in: of their address something is said only where there is one. -/
def CA (B : Nat) (w : World) (A : Option Addr) (cs : List (Bool × Int)) : Prop :=
  0 < cs.length → ∃ b o, A = some ⟨b, o, none⟩ ∧ b < B ∧ ∀ i, i < cs.length → w.cell? ⟨b, o + i * 2, none⟩ = some (.bool (cs.getD i (false, 0)).1) ∧ w.cell? ⟨b, o + i * 2 + 1, none⟩ = some (.int .i64 (cs.getD i (false, 0)).2)
theorem CA.below {B : Nat} {w w' : World} {A : Option Addr} {cs : List (Bool × Int)} (h : CA B w A cs) (hb : Below B w w') : CA B w' A cs := fun hp => by
  obtain ⟨b, o, e, hg, hc⟩ := h hp
  exact ⟨b, o, e, hg, fun i hi => ⟨(hb.cell (p := ⟨b, o + i * 2, none⟩) hg).trans (hc i hi).1, (hb.cell (p := ⟨b, o + i * 2 + 1, none⟩) hg).trans (hc i hi).2⟩⟩
/-- The row behind so many calls. -/
def after (l : List Bool) (cs : List (Bool × Int)) : Nat → List Bool
  | 0 => l
  | k + 1 => setL (after l cs k) (cs.getD k (false, 0)).2 (!(cs.getD k (false, 0)).1)
theorem after_length (l : List Bool) (cs : List (Bool × Int)) : ∀ k, (after l cs k).length = l.length
  | 0 => rfl
  | k + 1 => by rw [after, setL_length, after_length l cs k]
/-- Only these two blocks may have changed. -/
def Kept (g gl : Nat) (w w' : World) : Prop := ∀ i, i < w.heap.size → i ≠ g → i ≠ gl → w'.heap[i]? = w.heap[i]?
theorem Kept.on {g gl : Nat} {w a b : World} (h : Kept g gl w a) (hs : w.heap.size ≤ a.heap.size) (k : a.grownBy b (some g)) : Kept g gl w b := fun i hi h1 h2 =>
  (k.block i (by omega) (by simpa using h1)).trans (h i hi h1 h2)
theorem Kept.on2 {g gl : Nat} {w a b : World} (h : Kept g gl w a) (hs : w.heap.size ≤ a.heap.size) (k : a.grownBy b (some gl)) : Kept g gl w b := fun i hi h1 h2 =>
  (k.block i (by omega) (by simpa using h2)).trans (h i hi h1 h2)
def Told (q g gl B : Nat) (l : List Bool) (w w' : World) : Prop := (∃ ws, Bits w' q g l ws) ∧ Blk w' gl (brow l) 4 ∧ Below B w w' ∧ w.heap.size ≤ w'.heap.size ∧ Kept g gl w w'
def Done (q g gl B : Nat) (l : List Bool) (w : World) (e : Ending) (w' : World) : Prop := e = .returned (.bool true) ∧ Told q g gl B l w w'
/-- One call more. -/
theorem told_next {q g gl B : Nat} {l l0 : List Bool} {w wr w1 w2 : World} {b r : Bool} {x : Int} {e : Ending} (h : Told q g gl B l w wr) (hB : B ≤ g) (hB2 : B ≤ gl) (hBw : B ≤ w.heap.size)
    (hd : wr.grownBy w1 (some gl)) (hbl : Blk w1 gl (brow (setL l x b)) 4) (ht : Turned q g (setL l x b) r w1 e w2) (hne : gl ≠ g) (hl0 : l0 = setL l x b) : Told q g gl B l0 w w2 := by
  subst hl0
  obtain ⟨_, h2, h3, h4, h5⟩ := h
  obtain ⟨_, hm, hg⟩ := ht
  have b1 := below_grown h3 hd (by omega) hB2
  have s1 := hd.size
  exact ⟨hm, hbl.far hg hne, below_grown b1 hg (by omega) hB, by have := hg.size; omega, (h5.on2 h4 hd).on (by omega) hg⟩
theorem do_none (q : Nat) (A L : Option Addr) (n c m : Nat) (w : World) :
    Calls Tryd.prog 8 #[.pointer (some ⟨q, 0, none⟩), .slice L n m, .slice A 0 c] w fun e w' => e = .returned (.bool true) ∧ w = w' := by
  go_enter Tryd.func8, Tryd.ntmps8
  go_wp2
  go_loop [7] (fun i => i = .int .i64 0) (fun _ => 0)
  case atStart => rfl
  case round =>
    obtain rfl := hrel
    go_wp2
    go_ret
    exact ⟨rfl, rfl⟩
theorem want_no {l : List Bool} {k : Int} {c : Bool} (h : hasB l.length k = false) : setB l k c = false ∧ setL l k c = l := by unfold setB setL; rw [h]; exact ⟨rfl, rfl⟩
set_option maxRecDepth 100000 in
set_option maxHeartbeats 4000000 in
theorem do_some (q g gl B b o : Nat) (l : List Bool) (ws : List (BitVec 64)) (cs : List (Bool × Int)) (c : Nat) (w : World) (hm : Bits w q g l ws) (hl : Blk w gl (brow l) 4) (hB : B ≤ g) (hB2 : B ≤ gl) (hBw : B ≤ w.heap.size) (hne : gl ≠ g) (hql : q ≠ gl) (hb : b < B)
    (hc : ∀ i, i < cs.length → w.cell? ⟨b, o + i * 2, none⟩ = some (.bool (cs.getD i (false, 0)).1) ∧ w.cell? ⟨b, o + i * 2 + 1, none⟩ = some (.int .i64 (cs.getD i (false, 0)).2)) (hlen : cs.length ≤ 300) :
    Calls Tryd.prog 8 #[.pointer (some ⟨q, 0, none⟩), .slice (some ⟨gl, 0, none⟩) l.length l.length, .slice (some ⟨b, o, none⟩) cs.length c] w (Done q g gl B (after l cs cs.length) w) := by
  have HC := Lib.hid hc
  have hn4 := hm.2.2.2.1
  have H0 : Hid (Told q g gl B (after l cs 0) w w) := ⟨⟨ws, hm⟩, hl, Below.refl _ _, Nat.le_refl _, fun _ _ _ _ => rfl⟩
  have hbg : ¬ b = gl := by omega
  have hbg2 : ¬ gl = b := by omega
  clear hm hl hc
  obtain ⟨n, hn⟩ : ∃ n, l.length = n := ⟨_, rfl⟩
  have HAL : Hid (∀ k, (after l cs k).length = n) := fun k => by rw [after_length, hn]
  rw [hn] at hn4 ⊢
  clear hn
  obtain ⟨m, hm⟩ : ∃ m, cs.length = m := ⟨_, rfl⟩
  rw [hm] at hlen HC ⊢
  clear hm
  go_enter Tryd.func8, Tryd.ntmps8
  go_wp2
  go_loopw [7] (fun i wr => ∃ k : Nat, k ≤ m ∧ i = .int .i64 k ∧ Told q g gl B (after l cs k) w wr) (fun i _ => m - (intOf i).toNat)
  case atStart => exact ⟨0, by omega, rfl, H0.out⟩
  case round =>
    obtain ⟨k, hk, rfl, ht⟩ := hrel
    have HT := Lib.hid ht
    clear ht
    by_cases hlt : k < m
    · obtain ⟨⟨ws', hm⟩, hbl, hbel, hsz, hkept⟩ := HT.out
      obtain ⟨p1, p2⟩ := HC.out k hlt
      have q1 := (hbel.cell (p := ⟨b, o + k * 2, none⟩) hb).trans p1
      have q2 := (hbel.cell (p := ⟨b, o + k * 2 + 1, none⟩) hb).trans p2
      clear p1 p2
      obtain ⟨cl, hcl⟩ : ∃ cl, (cs.getD k (false, 0)).1 = cl := ⟨_, rfl⟩
      obtain ⟨x, hx⟩ : ∃ x, (cs.getD k (false, 0)).2 = x := ⟨_, rfl⟩
      rw [hcl] at q1
      rw [hx] at q2
      have HAf : Hid (after l cs (k + 1) = setL (after l cs k) x (!cl)) := by show _ = _; rw [after, hcl, hx]
      have hal := HAL.out k
      obtain ⟨lk, hlk⟩ : ∃ lk, after l cs k = lk := ⟨_, rfl⟩
      rw [hlk] at HAf HT hm hbl hal
      have HBl := Lib.hid hbl
      have HM := Lib.hid hm
      have HAl := Lib.hid hal
      have hwi : IntKind.i64.wrap (k : Int) = (k : Int) := i64_in _ (by omega) (by omega)
      have k1 : (0 : Int) ≤ (k : Int) := by omega
      have k2 : (k : Int) < (m : Int) := by omega
      have fin : ∀ w1 e w2, wr.grownBy w1 (some gl) → Blk w1 gl (brow (setL lk x (!cl))) 4 → Turned q g (setL lk x (!cl)) (setB lk x (!cl)) w1 e w2 → Told q g gl B (after l cs (k + 1)) w w2 := fun w1 e w2 a1 a2 a3 =>
        told_next HT.out hB hB2 hBw a1 a2 a3 hne HAf.out
      have HFin := Lib.hid fin
      clear hcl hx hlk hbl hm hbel hkept hal fin
      by_cases hin : 0 ≤ x ∧ x < (n : Int)
      · obtain ⟨h0, h1⟩ := hin
        obtain ⟨X, rfl⟩ := Int.eq_ofNat_of_zero_le h0
        have hX : X < n := by omega
        have q3 : wr.cell? ⟨gl, X, none⟩ = some (.bool (lk.getD X false)) := by rw [HBl.out.cell, brow_get (by rw [HAl.out]; exact hX)]
        obtain ⟨bv, hbv⟩ : ∃ bv, lk.getD X false = bv := ⟨_, rfl⟩
        rw [hbv] at q3
        have HBv := Lib.hid hbv
        clear hbv
        have k3 : (0 : Int) ≤ (X : Int) := by omega
        have k4 : (X : Int) < (n : Int) := by omega
        have hd1 : decide ((0 : Int) ≤ (X : Int)) = true := by simp
        have hd2 : decide ((X : Int) < (n : Int)) = true := by simpa using k4
        cases cl
        · cases bv
          · go_wp2_with fail
            go_quiet (fail)
            have hdr : Drawn wr (wr.drewN nq) := ⟨nq, rfl⟩
            generalize wr.drewN nq = wd at hdr ⊢
            have q1' := hdr.cell q1
            have q3' := hdr.cell q3
            have bl' := HBl.out.below hdr.below
            have HG : Hid (wr.grownBy (wd.setCell ⟨gl, X, none⟩ (.bool true)) (some gl)) := grown_set (grown_below hdr.below)
            have HM1 := Lib.hid ((HM.out.below hdr.below).far (grown_set (i := X) (v := .bool true) (grown_refl wd (some gl))) hql (fun e => hne e.symm))
            have HBl1 : Hid (Blk (wd.setCell ⟨gl, X, none⟩ (.bool true)) gl (brow (setL lk (X : Int) true)) 4) := by
              have := bl'.set (i := X) (.bool true)
              rw [brow_set] at this
              show Blk _ _ _ _
              unfold setL
              rw [HAl.out, hasB_iff.2 ⟨h0, h1⟩, if_pos rfl, Int.toNat_natCast]; exact this
            have fz := bl'.frozen X
            clear q1 q2 q3 bl' hdr
            go_wp2_with fail
            refine (set_any q g lk ws' (X : Int) _ HM1.out).mono ?_
            intro e w2 ht
            have he := ht.1
            rw [show setB lk (X : Int) true = true by unfold setB; rw [HAl.out, hasB_iff.2 ⟨h0, h1⟩, Int.toNat_natCast, HBv.out]; rfl] at he
            subst he
            go_wp2
            go_roundw
            case rel => exact ⟨k + 1, by omega, by go_num, HFin.out _ _ _ HG.out HBl1.out ht⟩
            case measure => simp [intOf]; omega
          · go_wp2_with fail
            go_quiet (fail)
            have hdr : Drawn wr (wr.drewN nq) := ⟨nq, rfl⟩
            generalize wr.drewN nq = wd at hdr ⊢
            have q1' := hdr.cell q1
            have q3' := hdr.cell q3
            have bl' := HBl.out.below hdr.below
            have HG : Hid (wr.grownBy (wd.setCell ⟨gl, X, none⟩ (.bool true)) (some gl)) := grown_set (grown_below hdr.below)
            have HM1 := Lib.hid ((HM.out.below hdr.below).far (grown_set (i := X) (v := .bool true) (grown_refl wd (some gl))) hql (fun e => hne e.symm))
            have HBl1 : Hid (Blk (wd.setCell ⟨gl, X, none⟩ (.bool true)) gl (brow (setL lk (X : Int) true)) 4) := by
              have := bl'.set (i := X) (.bool true)
              rw [brow_set] at this
              show Blk _ _ _ _
              unfold setL
              rw [HAl.out, hasB_iff.2 ⟨h0, h1⟩, if_pos rfl, Int.toNat_natCast]; exact this
            have fz := bl'.frozen X
            clear q1 q2 q3 bl' hdr
            go_wp2_with fail
            refine (set_any q g lk ws' (X : Int) _ HM1.out).mono ?_
            intro e w2 ht
            have he := ht.1
            rw [show setB lk (X : Int) true = false by unfold setB; rw [HAl.out, hasB_iff.2 ⟨h0, h1⟩, Int.toNat_natCast, HBv.out]; rfl] at he
            subst he
            go_wp2
            go_roundw
            case rel => exact ⟨k + 1, by omega, by go_num, HFin.out _ _ _ HG.out HBl1.out ht⟩
            case measure => simp [intOf]; omega
        · cases bv
          · go_wp2_with fail
            go_quiet (fail)
            have hdr : Drawn wr (wr.drewN nq) := ⟨nq, rfl⟩
            generalize wr.drewN nq = wd at hdr ⊢
            have q1' := hdr.cell q1
            have q3' := hdr.cell q3
            have bl' := HBl.out.below hdr.below
            have HG : Hid (wr.grownBy (wd.setCell ⟨gl, X, none⟩ (.bool false)) (some gl)) := grown_set (grown_below hdr.below)
            have HM1 := Lib.hid ((HM.out.below hdr.below).far (grown_set (i := X) (v := .bool false) (grown_refl wd (some gl))) hql (fun e => hne e.symm))
            have HBl1 : Hid (Blk (wd.setCell ⟨gl, X, none⟩ (.bool false)) gl (brow (setL lk (X : Int) false)) 4) := by
              have := bl'.set (i := X) (.bool false)
              rw [brow_set] at this
              show Blk _ _ _ _
              unfold setL
              rw [HAl.out, hasB_iff.2 ⟨h0, h1⟩, if_pos rfl, Int.toNat_natCast]; exact this
            have fz := bl'.frozen X
            clear q1 q2 q3 bl' hdr
            go_wp2_with fail
            refine (clear_any q g lk ws' (X : Int) _ HM1.out).mono ?_
            intro e w2 ht
            have he := ht.1
            rw [show setB lk (X : Int) false = false by unfold setB; rw [HAl.out, hasB_iff.2 ⟨h0, h1⟩, Int.toNat_natCast, HBv.out]; rfl] at he
            subst he
            go_wp2
            go_roundw
            case rel => exact ⟨k + 1, by omega, by go_num, HFin.out _ _ _ HG.out HBl1.out ht⟩
            case measure => simp [intOf]; omega
          · go_wp2_with fail
            go_quiet (fail)
            have hdr : Drawn wr (wr.drewN nq) := ⟨nq, rfl⟩
            generalize wr.drewN nq = wd at hdr ⊢
            have q1' := hdr.cell q1
            have q3' := hdr.cell q3
            have bl' := HBl.out.below hdr.below
            have HG : Hid (wr.grownBy (wd.setCell ⟨gl, X, none⟩ (.bool false)) (some gl)) := grown_set (grown_below hdr.below)
            have HM1 := Lib.hid ((HM.out.below hdr.below).far (grown_set (i := X) (v := .bool false) (grown_refl wd (some gl))) hql (fun e => hne e.symm))
            have HBl1 : Hid (Blk (wd.setCell ⟨gl, X, none⟩ (.bool false)) gl (brow (setL lk (X : Int) false)) 4) := by
              have := bl'.set (i := X) (.bool false)
              rw [brow_set] at this
              show Blk _ _ _ _
              unfold setL
              rw [HAl.out, hasB_iff.2 ⟨h0, h1⟩, if_pos rfl, Int.toNat_natCast]; exact this
            have fz := bl'.frozen X
            clear q1 q2 q3 bl' hdr
            go_wp2_with fail
            refine (clear_any q g lk ws' (X : Int) _ HM1.out).mono ?_
            intro e w2 ht
            have he := ht.1
            rw [show setB lk (X : Int) false = true by unfold setB; rw [HAl.out, hasB_iff.2 ⟨h0, h1⟩, Int.toNat_natCast, HBv.out]; rfl] at he
            subst he
            go_wp2
            go_roundw
            case rel => exact ⟨k + 1, by omega, by go_num, HFin.out _ _ _ HG.out HBl1.out ht⟩
            case measure => simp [intOf]; omega
      · have HNo : Hid (∀ b, setB lk x b = false ∧ setL lk x b = lk) := fun b => want_no (by rw [HAl.out]; exact hasB_not.2 hin)
        by_cases h0 : 0 ≤ x
        · have hd1 : decide (0 ≤ x) = true := by simpa using h0
          have hd2 : decide (x < (n : Int)) = false := by simp; omega
          clear hin
          cases cl
          · go_wp2_with fail
            go_quiet (fail)
            have hdr : Drawn wr (wr.drewN nq) := ⟨nq, rfl⟩
            generalize wr.drewN nq = wd at hdr ⊢
            have q1' := hdr.cell q1
            have HG : Hid (wr.grownBy wd (some gl)) := grown_below hdr.below
            have HM1 := Lib.hid (HM.out.below hdr.below)
            have HBl1 : Hid (Blk wd gl (brow (setL lk x true)) 4) := by show Blk _ _ _ _; rw [(HNo.out true).2]; exact HBl.out.below hdr.below
            clear q1 q2 hdr
            go_wp2_with fail
            refine (set_any q g lk ws' x _ HM1.out).mono ?_
            intro e w2 ht
            have he := ht.1
            rw [(HNo.out true).1] at he
            subst he
            go_wp2
            go_roundw
            case rel => exact ⟨k + 1, by omega, by go_num, HFin.out _ _ _ HG.out HBl1.out ht⟩
            case measure => simp [intOf]; omega
          · go_wp2_with fail
            go_quiet (fail)
            have hdr : Drawn wr (wr.drewN nq) := ⟨nq, rfl⟩
            generalize wr.drewN nq = wd at hdr ⊢
            have q1' := hdr.cell q1
            have HG : Hid (wr.grownBy wd (some gl)) := grown_below hdr.below
            have HM1 := Lib.hid (HM.out.below hdr.below)
            have HBl1 : Hid (Blk wd gl (brow (setL lk x false)) 4) := by show Blk _ _ _ _; rw [(HNo.out false).2]; exact HBl.out.below hdr.below
            clear q1 q2 hdr
            go_wp2_with fail
            refine (clear_any q g lk ws' x _ HM1.out).mono ?_
            intro e w2 ht
            have he := ht.1
            rw [(HNo.out false).1] at he
            subst he
            go_wp2
            go_roundw
            case rel => exact ⟨k + 1, by omega, by go_num, HFin.out _ _ _ HG.out HBl1.out ht⟩
            case measure => simp [intOf]; omega
        · have hd1 : decide (0 ≤ x) = false := by simpa using h0
          clear hin
          cases cl
          · go_wp2_with fail
            go_quiet (fail)
            have hdr : Drawn wr (wr.drewN nq) := ⟨nq, rfl⟩
            generalize wr.drewN nq = wd at hdr ⊢
            have q1' := hdr.cell q1
            have HG : Hid (wr.grownBy wd (some gl)) := grown_below hdr.below
            have HM1 := Lib.hid (HM.out.below hdr.below)
            have HBl1 : Hid (Blk wd gl (brow (setL lk x true)) 4) := by show Blk _ _ _ _; rw [(HNo.out true).2]; exact HBl.out.below hdr.below
            clear q1 q2 hdr
            go_wp2_with fail
            refine (set_any q g lk ws' x _ HM1.out).mono ?_
            intro e w2 ht
            have he := ht.1
            rw [(HNo.out true).1] at he
            subst he
            go_wp2
            go_roundw
            case rel => exact ⟨k + 1, by omega, by go_num, HFin.out _ _ _ HG.out HBl1.out ht⟩
            case measure => simp [intOf]; omega
          · go_wp2_with fail
            go_quiet (fail)
            have hdr : Drawn wr (wr.drewN nq) := ⟨nq, rfl⟩
            generalize wr.drewN nq = wd at hdr ⊢
            have q1' := hdr.cell q1
            have HG : Hid (wr.grownBy wd (some gl)) := grown_below hdr.below
            have HM1 := Lib.hid (HM.out.below hdr.below)
            have HBl1 : Hid (Blk wd gl (brow (setL lk x false)) 4) := by show Blk _ _ _ _; rw [(HNo.out false).2]; exact HBl.out.below hdr.below
            clear q1 q2 hdr
            go_wp2_with fail
            refine (clear_any q g lk ws' x _ HM1.out).mono ?_
            intro e w2 ht
            have he := ht.1
            rw [(HNo.out false).1] at he
            subst he
            go_wp2
            go_roundw
            case rel => exact ⟨k + 1, by omega, by go_num, HFin.out _ _ _ HG.out HBl1.out ht⟩
            case measure => simp [intOf]; omega
    · obtain rfl : k = m := by omega
      go_wp2
      go_ret
      exact ⟨rfl, HT.out⟩
end Go.Proofs.YthleflfljomeiaaDoor
