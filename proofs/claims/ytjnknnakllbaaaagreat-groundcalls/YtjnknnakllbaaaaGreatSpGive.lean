/-
  How spans are given back: contracts that the claimed proofs use.
-/
import Derived.Test.YtjnknnakllbaaaaGreatSpA
import Derived.StillTailTactics
namespace Go.Proofs.YtjnknnakllbaaaaGreat.Sp
set_option maxRecDepth 100000
open Go.RowKit

theorem join_neg (q : Nat) (s : Int) (w : World) : Calls Tryz.prog 104 #[.pointer (some ⟨q, 0, none⟩), .int .i64 (-1), .int .i64 s] w fun e w' => e = .returned (.tuple #[]) ∧ w = w' := by
  go_enter Tryz.func104, Tryz.ntmps104
  go_wp2
  refine bodyPost_ret (results_none rfl _ _ _) rfl ?_
  exact ⟨rfl, rfl⟩
theorem join_no {w : World} {q g f s : Nat} {L : List Rn} (h : Sp w q g L) (hf : f < L.length) (_hl : L.length ≤ 8192) (hc : ¬ (s < L.length ∧ (el L f).t = false ∧ (el L s).t = false)) :
    Calls Tryz.prog 104 #[.pointer (some ⟨q, 0, none⟩), .int .i64 (f : Int), .int .i64 (s : Int)] w fun e w' => e = .returned (.tuple #[]) ∧ w = w' := by
  obtain ⟨cap, hq, hr, hne⟩ := h
  have c0 : w.cell? ⟨q, 0, none⟩ = some (.slice (some ⟨g, 0, none⟩) L.length cap) := hq.cell
  have f2 := (hr.cells hf).2.2
  have d0 : decide ((f : Int) < 0) = false := by simp
  have b2 : (f : Int) < (L.length : Int) := by omega
  by_cases hs : s < L.length
  · have s2 := (hr.cells hs).2.2
    have d1 : decide ((L.length : Int) ≤ (s : Int)) = false := by simp; omega
    have b1 : (s : Int) < (L.length : Int) := by omega
    generalize L.length = n at *
    cases hft : (el L f).t with
    | true =>
      rw [hft] at f2
      clear hq hr hne hc s2
      go_enter Tryz.func104, Tryz.ntmps104
      go_wp2
      refine bodyPost_ret (results_none rfl _ _ _) rfl ?_
      exact ⟨rfl, rfl⟩
    | false =>
      have hst : (el L s).t = true := by
        cases hst : (el L s).t with
        | true => rfl
        | false => exact absurd ⟨hs, hft, hst⟩ hc
      rw [hft] at f2
      rw [hst] at s2
      clear hq hr hne hc
      go_enter Tryz.func104, Tryz.ntmps104
      go_wp2
      refine bodyPost_ret (results_none rfl _ _ _) rfl ?_
      exact ⟨rfl, rfl⟩
  · have d1 : decide ((L.length : Int) ≤ (s : Int)) = true := by simp; omega
    generalize L.length = n at *
    clear hq hr hne hc f2
    go_enter Tryz.func104, Tryz.ntmps104
    go_wp2
    refine bodyPost_ret (results_none rfl _ _ _) rfl ?_
    exact ⟨rfl, rfl⟩
set_option maxHeartbeats 2000000 in
theorem join_yes {w : World} {q g f s : Nat} {L : List Rn} (h : Sp w q g L) (hf : f < L.length) (hfs : f ≠ s) (_hl : L.length ≤ 8192) (hs : s < L.length) (hft : (el L f).t = false) (hst : (el L s).t = false)
    (hb1 : 0 ≤ (el L f).n ∧ (el L f).n ≤ 8192) (hb2 : 0 ≤ (el L s).n ∧ (el L s).n ≤ 8192) :
    Calls Tryz.prog 104 #[.pointer (some ⟨q, 0, none⟩), .int .i64 (f : Int), .int .i64 (s : Int)] w fun e w' => e = .returned (.tuple #[]) ∧ Sp w' q g (joinL L f s) ∧ Fr q g w w' := by
  obtain ⟨cap, hq, hr, hne⟩ := h
  have c0 : w.cell? ⟨q, 0, none⟩ = some (.slice (some ⟨g, 0, none⟩) L.length cap) := hq.cell
  have hj : joinL L f s = (L.set s ⟨(el L f).p, (el L s).n + (el L f).n, false⟩).set f ⟨(el L f).p, 0, false⟩ := rfl
  have HJ := Lib.hid hj
  have HQ := Lib.hid hq
  have HR := Lib.hid hr
  have HNE := Lib.hid hne
  obtain ⟨n, hn⟩ : ∃ n, L.length = n := ⟨_, rfl⟩
  have HN := Lib.hid hn
  rw [hn] at c0 hf hs _hl HQ
  obtain ⟨u, hu⟩ : ∃ u, el L f = u := ⟨_, rfl⟩
  obtain ⟨v, hv⟩ : ∃ v, el L s = v := ⟨_, rfl⟩
  rw [hu] at hft hb1 HJ
  rw [hv] at hst hb2 HJ
  obtain ⟨p, m, t⟩ := u
  obtain ⟨p2, m2, t2⟩ := v
  dsimp only at hft hst hb1 hb2 HJ
  subst hft hst
  have HU := Lib.hid hu
  have HV := Lib.hid hv
  obtain ⟨f0, f1, f2⟩ := hr.cells (i := f) (by omega)
  obtain ⟨s0, s1, s2⟩ := hr.cells (i := s) (by omega)
  rw [hu] at f0 f1 f2
  rw [hv] at s0 s1 s2
  dsimp only at f0 f1 f2 s0 s1 s2
  have z0 := hr.frozen (s * 3)
  have d0 : decide ((f : Int) < 0) = false := by simp
  have d1 : decide ((n : Int) ≤ (s : Int)) = false := by simp; omega
  have b1 : (s : Int) < (n : Int) := by omega
  have b2 : (f : Int) < (n : Int) := by omega
  have b3 : (0 : Int) ≤ (s : Int) := by omega
  have b4 : (0 : Int) ≤ (f : Int) := by omega
  have hwr := i64_in (m2 + m) (by omega) (by omega)
  have R1 : Rw (w.setCell ⟨g, s * 3, none⟩ (.int .i64 p)).drew g cap (L.set s ⟨p, m2, false⟩) := (hr.set (i := s) (by omega) (k := 0) (by omega) ⟨p, m2, false⟩ (.int .i64 p) (by rw [hv]; rfl)).below (Below.refl _ _).drew
  have G1 : w.grownBy (w.setCell ⟨g, s * 3, none⟩ (.int .i64 p)).drew (some g) := grown_trans (grown_set _ _ _ _) (grown_below (Below.refl _ _).drew)
  clear hq hr hne hn hj hu hv
  go_enter Tryz.func104, Tryz.ntmps104
  go_wp2_with fail
  go_still_tail 15, (by kernel_rfl)
  change wpList _ _ _ _ _ w.drew
  go_wp2_with fail
  generalize (w.setCell ⟨g, s * 3, none⟩ (.int .i64 p)).drew = W1 at R1 G1 ⊢
  have Q1 := HQ.out.of (G1.block q HQ.out.lt (by simpa using HNE.out))
  have c1 : W1.cell? ⟨q, 0, none⟩ = some (.slice (some ⟨g, 0, none⟩) n cap) := Q1.cell
  obtain ⟨g0, g1, g2⟩ := R1.cells (i := f) (by rw [List.length_set, HN.out]; omega)
  obtain ⟨t0, t1, t2⟩ := R1.cells (i := s) (by rw [List.length_set, HN.out]; omega)
  rw [el_set _ hfs, HU.out] at g0 g1 g2
  rw [el_same _ (by rw [HN.out]; omega)] at t0 t1 t2
  dsimp only at g0 g1 g2 t0 t1 t2
  have z1 := R1.frozen (s * 3 + 1)
  have z3 := R1.frozen (f * 3 + 1)
  have R3 : Rw ((W1.setCell ⟨g, s * 3 + 1, none⟩ (.int .i64 (m2 + m))).setCell ⟨g, f * 3 + 1, none⟩ (.int .i64 0)).drew g cap (joinL L f s) := by
    have := R1.set (i := s) (by rw [List.length_set, HN.out]; omega) (k := 1) (by omega) ⟨p, m2 + m, false⟩ (.int .i64 (m2 + m)) (by rw [el_same _ (by rw [HN.out]; omega)]; rfl)
    rw [List.set_set] at this
    have := (this.set (i := f) (by rw [List.length_set, HN.out]; omega) (k := 1) (by omega) ⟨p, 0, false⟩ (.int .i64 0) (by rw [el_set _ hfs, HU.out]; rfl)).below (Below.refl _ _).drew
    rw [HJ.out]; exact this
  have G3 : w.grownBy ((W1.setCell ⟨g, s * 3 + 1, none⟩ (.int .i64 (m2 + m))).setCell ⟨g, f * 3 + 1, none⟩ (.int .i64 0)).drew (some g) := grown_trans (grown_trans (grown_trans G1 (grown_set _ _ _ _)) (grown_set _ _ _ _)) (grown_below (Below.refl _ _).drew)
  have R3 := Lib.hid R3
  have G3 := Lib.hid G3
  have hlj : (joinL L f s).length = n := by rw [HJ.out]; simp [HN.out]
  have HLJ := Lib.hid hlj
  have hsf : s ≠ f := fun e => hfs e.symm
  have ho1 : f * 3 + 1 ≠ s * 3 + 1 := by omega
  have ho2 : s * 3 + 1 ≠ f * 3 + 1 := by omega
  clear c0 f0 f1 f2 s0 s1 s2 z0 R1 G1 Q1 hlj
  go_still_tail 19, (by kernel_rfl)
  change wpList _ _ _ _ _ W1.drew
  go_wp2
  go_end0
  refine ⟨rfl, ⟨cap, ?_, R3.out, HNE.out⟩, Fr.ofg G3.out⟩
  rw [HLJ.out]
  exact HQ.out.of (G3.out.block q HQ.out.lt (by simpa using HNE.out))
theorem join_any {w : World} {q g f s : Nat} {L : List Rn} (h : Sp w q g L) (hf : f < L.length) (hfs : f ≠ s) (hl : L.length ≤ 8192)
    (hb1 : 0 ≤ (el L f).n ∧ (el L f).n ≤ 8192) (hb2 : s < L.length → 0 ≤ (el L s).n ∧ (el L s).n ≤ 8192) :
    Calls Tryz.prog 104 #[.pointer (some ⟨q, 0, none⟩), .int .i64 (f : Int), .int .i64 (s : Int)] w fun e w' => e = .returned (.tuple #[]) ∧ Sp w' q g (joinB L f s) ∧ Fr q g w w' := by
  unfold joinB
  by_cases hc : s < L.length ∧ (el L f).t = false ∧ (el L s).t = false
  · rw [if_pos hc]
    exact join_yes h hf hfs hl hc.1 hc.2.1 hc.2.2 hb1 (hb2 hc.1)
  · rw [if_neg hc]
    refine (join_no h hf hl hc).mono ?_
    rintro e w' ⟨he, rfl⟩
    exact ⟨he, h, Fr.refl _ _ _⟩
theorem joinB_len (L : List Rn) (f s : Nat) : (joinB L f s).length = L.length := by
  unfold joinB; split
  · unfold joinL; simp
  · rfl
theorem joinB_n {M : List Rn} {f s : Nat} (hfs : f ≠ s) : (el (joinB M f s) s).n = (el M s).n ∨ (el (joinB M f s) s).n = (el M s).n + (el M f).n := by
  unfold joinB; split
  · next hc =>
    right
    unfold joinL
    rw [el_set _ (fun e => hfs e.symm), el_same _ hc.1]
  · left; rfl
theorem joinB_far {M : List Rn} {f s m : Nat} (h1 : m ≠ f) (h2 : m ≠ s) : el (joinB M f s) m = el M m := by
  unfold joinB; split
  · unfold joinL; rw [el_set _ h1, el_set _ h2]
  · rfl
end Go.Proofs.YtjnknnakllbaaaaGreat.Sp
