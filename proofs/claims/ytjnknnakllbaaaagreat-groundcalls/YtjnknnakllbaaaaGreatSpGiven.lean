/-
  What Give does: contracts that the claimed proofs use.
-/
import Derived.Test.YtjnknnakllbaaaaGreatSpGive
namespace Go.Proofs.YtjnknnakllbaaaaGreat.Sp
set_option maxRecDepth 100000
open Go.RowKit

theorem first_join {w : World} {q g k : Nat} {L : List Rn} (h : Sp w q g L) (hk : k < L.length) (hl : L.length ≤ 8192) (hb : 0 ≤ (el L k).n ∧ (el L k).n ≤ 8192) (hb2 : k ≠ 0 → 0 ≤ (el L (k - 1)).n ∧ (el L (k - 1)).n ≤ 8192) :
    Calls Tryz.prog 104 #[.pointer (some ⟨q, 0, none⟩), .int .i64 ((k : Int) - 1), .int .i64 (k : Int)] w fun e w' => e = .returned (.tuple #[]) ∧ Sp w' q g (if k = 0 then L else joinB L (k - 1) k) ∧ Fr q g w w' := by
  by_cases h0 : k = 0
  · subst h0
    rw [if_pos rfl]
    refine (join_neg q ((0 : Nat) : Int) w).mono ?_
    rintro e w' ⟨he, rfl⟩
    exact ⟨he, h, Fr.refl _ _ _⟩
  · rw [if_neg h0]
    have := join_any (f := k - 1) (s := k) h (by omega) (by omega) hl (hb2 h0) (fun _ => hb)
    rwa [show ((k - 1 : Nat) : Int) = (k : Int) - 1 by omega] at this
set_option maxHeartbeats 2000000 in
theorem give_yes {w : World} {q g k : Nat} {N x : Int} {L : List Rn} (h : Sp w q g L) (hw : WF N L) (hN : N ≤ 4096) (hk : k < L.length) (hp : (el L k).p = x) (ht : (el L k).t = true) :
    Calls Tryz.prog 73 #[.pointer (some ⟨q, 0, none⟩), .int .i64 x] w fun e w' => e = .returned (.tuple #[.int .i64 (el L k).n, .int .i64 0]) ∧ Sp w' q g (giveL L k) ∧ Fr q g w w' := by
  have hc := chain_at hw.chain hk
  have hlen : L.length ≤ 4096 := by have := hw.len; omega
  have HI := Lib.hid (index_yes h hw hN hk (by omega : (el L k).p ≤ x) (by omega))
  obtain ⟨cap, hq, hr, hne⟩ := h
  have HQ := Lib.hid hq
  have HR := Lib.hid hr
  have HNE := Lib.hid hne
  have HW := Lib.hid hw
  obtain ⟨M, hM⟩ : ∃ M, L.length = M := ⟨_, rfl⟩
  have HM := Lib.hid hM
  rw [hM] at hk hlen HQ
  obtain ⟨r, hrr⟩ : ∃ r, el L k = r := ⟨_, rfl⟩
  rw [hrr] at hp ht ⊢
  obtain ⟨p, n, t⟩ := r
  dsimp only at hp ht ⊢
  subst hp ht
  have HE := Lib.hid hrr
  have hk0 : ((k : Int) == -1) = false := by simp
  have b1 : (k : Int) < (M : Int) := by omega
  have b0 : (0 : Int) ≤ (k : Int) := by omega
  clear hq hr hne hM hrr hw hc
  go_enter Tryz.func73, Tryz.ntmps73
  go_wp2_with fail
  refine HI.out.mono ?_
  rintro e w1 ⟨rfl, d1⟩
  have Q1 := Lib.hid (HQ.out.of (d1.block _ HQ.out.lt))
  have R1 := Lib.hid (HR.out.below d1)
  have c1 : w1.cell? ⟨q, 0, none⟩ = some (.slice (some ⟨g, 0, none⟩) M cap) := Q1.out.cell
  obtain ⟨r0, r1, r2⟩ := R1.out.cells (i := k) (by rw [HM.out]; exact hk)
  have z2 := R1.out.frozen (k * 3 + 2)
  rw [HE.out] at r0 r1 r2
  dsimp only at r0 r1 r2
  have D1 := Lib.hid d1
  clear d1 HI
  have hpp : (p != p) = false := by simp
  have R2 : Rw (w1.setCell ⟨g, k * 3 + 2, none⟩ (.bool false)) g cap (L.set k ⟨p, n, false⟩) := R1.out.set (i := k) (by rw [HM.out]; exact hk) (k := 2) (by omega) ⟨p, n, false⟩ (.bool false) (by rw [HE.out]; rfl)
  have G2 := grown_set w1 g (k * 3 + 2) (.bool false)
  have S2 : Sp (w1.setCell ⟨g, k * 3 + 2, none⟩ (.bool false)) q g (L.set k ⟨p, n, false⟩) := ⟨cap, by rw [List.length_set, HM.out]; exact Q1.out.of (G2.block q Q1.out.lt (by simpa using HNE.out)), R2, HNE.out⟩
  have HS2 := Lib.hid S2
  have F2 := Lib.hid ((Fr.of D1.out : Fr q g _ _).trans (Fr.ofg G2) (.inl rfl))
  have hln : (el L k).n = n := by rw [HE.out]
  have HJ1 := Lib.hid (first_join S2 (by rw [List.length_set, HM.out]; exact hk) (by rw [List.length_set, HM.out]; omega) (by rw [el_same _ (by rw [HM.out]; exact hk)]; have := HW.out.bds hN (k := k) (by rw [HM.out]; exact hk); dsimp only; omega)
    (fun h0 => by rw [el_set _ (by omega)]; have := HW.out.bds hN (k := k - 1) (by rw [HM.out]; omega); omega))
  clear R2 G2 S2
  go_wp2_with fail
  refine HJ1.out.mono ?_
  rintro e w2 ⟨rfl, s2, f2⟩
  have hbk : 0 ≤ (el (if k = 0 then L.set k ⟨p, n, false⟩ else joinB (L.set k ⟨p, n, false⟩) (k - 1) k) k).n ∧ (el (if k = 0 then L.set k ⟨p, n, false⟩ else joinB (L.set k ⟨p, n, false⟩) (k - 1) k) k).n ≤ 8192 := by
    have hb := HW.out.bds hN (k := k) (by rw [HM.out]; exact hk)
    have e1 : (el (L.set k ⟨p, n, false⟩) k).n = n := by rw [el_same _ (by rw [HM.out]; exact hk)]
    split
    · rw [e1]; omega
    · next h0 =>
      have hb' := HW.out.bds hN (k := k - 1) (by rw [HM.out]; omega)
      have e2 : (el (L.set k ⟨p, n, false⟩) (k - 1)).n = (el L (k - 1)).n := by rw [el_set _ (by omega)]
      rcases joinB_n (M := L.set k ⟨p, n, false⟩) (f := k - 1) (s := k) (by omega) with h | h <;> rw [h] <;> rw [e1] <;> omega
  have hbs : k + 1 < M → 0 ≤ (el (if k = 0 then L.set k ⟨p, n, false⟩ else joinB (L.set k ⟨p, n, false⟩) (k - 1) k) (k + 1)).n ∧ (el (if k = 0 then L.set k ⟨p, n, false⟩ else joinB (L.set k ⟨p, n, false⟩) (k - 1) k) (k + 1)).n ≤ 8192 := by
    intro hlt
    have hb := HW.out.bds hN (k := k + 1) (by rw [HM.out]; exact hlt)
    split
    · rw [el_set _ (by omega)]; omega
    · rw [joinB_far (by omega) (by omega), el_set _ (by omega)]; omega
  have hl2 : (if k = 0 then L.set k ⟨p, n, false⟩ else joinB (L.set k ⟨p, n, false⟩) (k - 1) k).length = M := by
    split
    · rw [List.length_set, HM.out]
    · rw [joinB_len, List.length_set, HM.out]
  have hg : giveL L k = (joinB (if k = 0 then L.set k ⟨p, n, false⟩ else joinB (L.set k ⟨p, n, false⟩) (k - 1) k) k (k + 1)).filter ne := by
    unfold giveL; rw [HE.out]
  have HG := Lib.hid hg
  generalize (if k = 0 then L.set k ⟨p, n, false⟩ else joinB (L.set k ⟨p, n, false⟩) (k - 1) k) = L2 at s2 hbk hbs hl2 HG
  have HJ2 := join_any (f := k) (s := k + 1) s2 (by rw [hl2]; exact hk) (by omega) (by rw [hl2]; omega) hbk (fun h => hbs (by rw [← hl2]; exact h))
  rw [Int.natCast_add] at HJ2
  have HJ2 := Lib.hid HJ2
  have F3 := Lib.hid (F2.out.trans f2 (.inl rfl))
  have HL2 := Lib.hid hl2
  clear s2 f2 hbk hbs hl2 hg HJ1 F2 HS2
  go_wp2_with fail
  refine HJ2.out.mono ?_
  rintro e w3 ⟨rfl, s3, f3⟩
  have HL := Lib.hid (leave_any s3 (by rw [joinB_len, HL2.out]; omega))
  have F4 := Lib.hid (F3.out.trans f3 (.inl rfl))
  clear s3 f3 HJ2 F3
  go_wp2_with fail
  refine HL.out.mono ?_
  rintro e w4 ⟨rfl, s4, f4⟩
  have S4 := Lib.hid s4
  have F5 := Lib.hid (F4.out.trans f4 (.inl rfl))
  clear s4 f4 HL F4
  go_wp2
  go_ret2
  exact ⟨rfl, by rw [HG.out]; exact S4.out, F5.out⟩
/-- No span begins there. -/
theorem give_no {w : World} {q g : Nat} {N x : Int} {L : List Rn} (h : Sp w q g L) (hw : WF N L) (hN : N ≤ 4096) (hno : ∀ k, k < L.length → (el L k).p = x → (el L k).t = false) :
    Calls Tryz.prog 73 #[.pointer (some ⟨q, 0, none⟩), .int .i64 x] w fun e w' => e = .returned (.tuple #[.int .i64 0, .int .i64 12]) ∧ Below w.heap.size w w' := by
  by_cases hx : x < 0 ∨ N ≤ x
  · have HI := Lib.hid (index_no h hw hN hx)
    clear h hw hno hx
    go_enter Tryz.func73, Tryz.ntmps73
    go_wp2_with (go_at_call 85; refine HI.out.mono ?_; rintro e w1 ⟨rfl, d1⟩)
    go_ret2
    exact ⟨rfl, d1⟩
  · obtain ⟨k, hk, h1, h2⟩ := chain_find hw.chain (x := x) (by omega) (by omega)
    have HI := Lib.hid (index_yes h hw hN hk h1 h2)
    have hn := hno k hk
    obtain ⟨cap, hq, hr, hne⟩ := h
    have HQ := Lib.hid hq
    have HR := Lib.hid hr
    have HK := Lib.hid hk
    have hlen : L.length ≤ 4096 := by have := hw.len; omega
    have b1 : (k : Int) < (L.length : Int) := by omega
    obtain ⟨M, hM⟩ : ∃ M, L.length = M := ⟨_, rfl⟩
    rw [hM] at b1 hlen HQ
    obtain ⟨r, hrr⟩ : ∃ r, el L k = r := ⟨_, rfl⟩
    have HE := Lib.hid hrr
    rw [hrr] at hn
    obtain ⟨p, n, t⟩ := r
    dsimp only at hn
    have hk0 : ((k : Int) == -1) = false := by simp
    have b0 : (0 : Int) ≤ (k : Int) := by omega
    clear hq hr hne hw hno hx h1 h2 hk hrr hM
    by_cases hpx : p = x
    · have htf := hn hpx
      subst hpx htf
      have hpp : (p != p) = false := by simp
      clear hn
      go_enter Tryz.func73, Tryz.ntmps73
      go_wp2_with fail
      refine HI.out.mono ?_
      rintro e w1 ⟨rfl, d1⟩
      have c1 : w1.cell? ⟨q, 0, none⟩ = some (.slice (some ⟨g, 0, none⟩) M cap) := (HQ.out.of (d1.block _ HQ.out.lt)).cell
      obtain ⟨r0, r1, r2⟩ := (HR.out.below d1).cells HK.out
      rw [HE.out] at r0 r1 r2
      dsimp only at r0 r1 r2
      have D1 := Lib.hid d1
      clear d1 HI
      go_wp2
      go_ret2
      exact ⟨rfl, D1.out⟩
    · have hpp : (p != x) = true := by simpa using hpx
      clear hn
      go_enter Tryz.func73, Tryz.ntmps73
      go_wp2_with fail
      refine HI.out.mono ?_
      rintro e w1 ⟨rfl, d1⟩
      have c1 : w1.cell? ⟨q, 0, none⟩ = some (.slice (some ⟨g, 0, none⟩) M cap) := (HQ.out.of (d1.block _ HQ.out.lt)).cell
      obtain ⟨r0, r1, r2⟩ := (HR.out.below d1).cells HK.out
      rw [HE.out] at r0 r1 r2
      dsimp only at r0 r1 r2
      have D1 := Lib.hid d1
      clear d1 HI
      go_wp2
      go_ret2
      exact ⟨rfl, D1.out⟩
end Go.Proofs.YtjnknnakllbaaaaGreat.Sp
