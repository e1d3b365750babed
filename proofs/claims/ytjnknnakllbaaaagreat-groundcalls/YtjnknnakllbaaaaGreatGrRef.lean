/-
  The document's ground in memory, and what it is asked: contracts that the claimed proof uses.
-/
import Derived.Test.YtjnknnakllbaaaaGreatSpRefOps
import Derived.Test.YtjnknnakllbaaaaGreatLeRefDo
import Derived.Test.YtjnknnakllbaaaaGreatRaRefMore
import Derived.Test.YtjnknnakllbaaaaGreatGrCalls
namespace Go.Proofs.YtjnknnakllbaaaaGreat.Gr
set_option maxRecDepth 100000
open Go.RowKit

/-- Where the document's ground lies: spans, their pages, map, its words, book. -/
structure Rp where
  q : Nat
  g : Nat
  m : Nat
  r : Nat
  k : Nat
/-- The document's ground at P: the book and the struct lie at or beyond B, all else below. -/
structure Rg (B : Nat) (w : World) (P : Nat) (x : Rp) (v : Value) (N : Nat) (L : List Sp.Rn) (f : Ra.Ws) (t : Int) (S : List Le.Row) : Prop where
  blk : Blk w P [v, .pointer (some ⟨x.q, 0, none⟩), .pointer (some ⟨x.m, 0, none⟩), .pointer (some ⟨x.k, 0, none⟩)] 49
  sp : Sp.Rs w x.q x.g N L
  mp : Ra.Rf w x.m x.r N t f
  bk : Le.Rf B w x.k N S
  hB : B ≤ w.heap.size
  lq : x.q < B
  lg : x.g < B
  lm : x.m < B
  lr : x.r < B
section
variable {B P N : Nat} {w w' : World} {x : Rp} {v : Value} {L L' : List Sp.Rn} {f f' : Ra.Ws} {t t' : Int} {S S' : List Le.Row}
theorem Rg.c1 (h : Rg B w P x v N L f t S) : w.cell? ⟨P, 1, none⟩ = some (.pointer (some ⟨x.q, 0, none⟩)) := Sp.Blk.cell h.blk
theorem Rg.c2 (h : Rg B w P x v N L f t S) : w.cell? ⟨P, 2, none⟩ = some (.pointer (some ⟨x.m, 0, none⟩)) := Sp.Blk.cell h.blk
theorem Rg.c3 (h : Rg B w P x v N L f t S) : w.cell? ⟨P, 3, none⟩ = some (.pointer (some ⟨x.k, 0, none⟩)) := Sp.Blk.cell h.blk
theorem len_not (hi : Inv N L f S) {y : Int} (h0 : 0 ≤ y) (h1 : y < N) (hp : Sp.pf L y ≠ y + 1) : Sp.gvv L y = 0 := by
  rcases Sp.pf_begins hi.wf h0 h1 with ⟨_, h⟩ | ⟨h, _⟩
  · exact absurd h hp
  · unfold Sp.gvv; rw [if_neg h]
theorem Rg.below (h : Rg B w P x v N L f t S) (hb : Below w.heap.size w w') : Rg B w' P x v N L f t S :=
  ⟨Blk.below h.blk hb, h.sp.below hb, h.mp.below hb, h.bk.below hb, Nat.le_trans h.hB hb.size, h.lq, h.lg, h.lm, h.lr⟩
/-- A span's pages, and the one behind them. -/
theorem len_run (hi : Inv N L f S) {Y : Nat} (hy : Y < N) (hp : Sp.pf L (Y : Int) = (Y : Int) + 1) : ∃ m : Nat, Sp.gvv L Y = m ∧ Y + m ≤ N ∧ (∀ j, j < m → Sp.pf L ((Y + j : Nat) : Int) = (Y : Int) + 1) ∧ (Y + m < N → Sp.pf L ((Y + m : Nat) : Int) ≠ (Y : Int) + 1) := by
  rcases Sp.pf_begins hi.wf (x := (Y : Int)) (by omega) (by omega) with ⟨hg, _⟩ | ⟨_, h⟩
  · obtain ⟨e1, e2⟩ := Sp.gi_yes hg
    obtain ⟨b1, b2, b3⟩ := hi.at hg
    have hv : Sp.gvv L Y = (Sp.el L (Sp.gi L Y)).n := by unfold Sp.gvv; rw [if_pos hg]
    obtain ⟨m, hm⟩ := Int.eq_ofNat_of_zero_le (show 0 ≤ (Sp.el L (Sp.gi L Y)).n by omega)
    refine ⟨m, hv.trans hm, by omega, fun j hj => ?_, fun hlt e => ?_⟩
    · have := Sp.pf_at hi.wf.chain hg (x := ((Y + j : Nat) : Int)) (by omega) (by omega)
      rw [this]; unfold Sp.vl; rw [e2, if_pos rfl, e1]
    · obtain ⟨i, hi2, c1, c2, c3, c4⟩ := hi.owner (x := Y + m) (a := Y) (by omega) e
      have := Sp.gi_is hi.wf hi2 c1 c2
      rw [this] at hm
      omega
  · exact absurd hp h
set_option maxHeartbeats 4000000 in
theorem rlen_any (y : Int) (hy : Ra.I64 y) (h : Rg B w P x v N L f t S) (hi : Inv N L f S) : Calls Tryz.prog 19 #[.pointer (some ⟨P, 0, none⟩), .int .i64 y] w fun e w' => e = .returned (.int .i64 (Sp.gvv L y)) ∧ w = w' := by
  have c1 := h.c1
  have c2 := h.sp.slice
  have hpg := fun (i : Nat) (hi : i < N) => h.sp.2.1.cell hi
  have HPg := Lib.hid hpg
  have HI := Lib.hid hi
  have hN : N ≤ 4096 := by have := hi.n1; omega
  obtain ⟨g, hg⟩ : ∃ g, x.g = g := ⟨_, rfl⟩
  obtain ⟨q, hq⟩ : ∃ q, x.q = q := ⟨_, rfl⟩
  rw [hg] at c2 HPg
  rw [hq] at c1 c2
  clear h hpg hg hq hi
  by_cases h0 : y < 0
  · have d0 : decide (y < 0) = true := by simpa using h0
    have hz : Sp.gvv L y = 0 := by
      unfold Sp.gvv
      rw [if_neg (fun hc => by have := (Sp.gi_yes hc).1; have := (HI.out.at hc).1; omega)]
    rw [hz]
    clear hz HI
    go_enter Tryz.func19, Tryz.ntmps19
    go_wp2_with fail
    go_ret
    exact ⟨rfl, rfl⟩
  have d0 : decide (y < 0) = false := by simpa using h0
  obtain ⟨Y, rfl⟩ := Int.eq_ofNat_of_zero_le (show 0 ≤ y by omega)
  by_cases h1 : N ≤ Y
  · have d1 : decide ((N : Int) ≤ (Y : Int)) = true := by simp; omega
    have hz : Sp.gvv L (Y : Int) = 0 := by
      unfold Sp.gvv
      rw [if_neg (fun hc => by have := (Sp.gi_yes hc).1; have := HI.out.at hc; omega)]
    rw [hz]
    clear hz HI
    go_enter Tryz.func19, Tryz.ntmps19
    go_wp2_with fail
    go_ret
    exact ⟨rfl, rfl⟩
  have d1 : decide ((N : Int) ≤ (Y : Int)) = false := by simp; omega
  have k0 := HPg.out Y (by omega)
  have hw1 := i64_in ((Y : Int) + 1) (by omega) (by omega)
  have z0 : (0 : Int) ≤ (Y : Int) := by omega
  have z1 : (Y : Int) < (N : Int) := by omega
  by_cases h2 : Sp.pf L (Y : Int) = (Y : Int) + 1
  · have d2 : ((Y : Int) + 1 != (Y : Int) + 1) = false := by simp
    obtain ⟨m, hm, hle, hin, hout⟩ := len_run HI.out (by omega) h2
    rw [hm]
    rw [h2] at k0
    have HIn := Lib.hid hin
    have HOut := Lib.hid hout
    clear hm hin hout h2 h0 h1 HI hy
    go_enter Tryz.func19, Tryz.ntmps19
    go_wp2_with fail
    clear d0 d1 k0
    go_loop [5, 6] (fun n i => ∃ j : Nat, j ≤ m ∧ n = .int .i64 j ∧ i = .int .i64 ((Y + j : Nat) : Int)) (fun n _ => m - (intOf n).toNat)
    case atStart => exact ⟨0, by omega, rfl, rfl⟩
    case round =>
      obtain ⟨j, hj, rfl, rfl⟩ := hrel
      by_cases hlt : j < m
      · have k1 := HPg.out (Y + j) (by omega)
        rw [HIn.out j hlt] at k1
        obtain ⟨i, hi⟩ : ∃ i, Y + j = i := ⟨_, rfl⟩
        rw [hi] at k1 ⊢
        have z2 : (0 : Int) ≤ (i : Int) := by omega
        have z3 : (i : Int) < (N : Int) := by omega
        have d3 : decide ((i : Int) < (N : Int)) = true := by simp; omega
        have d4 : ((Y : Int) + 1 == (Y : Int) + 1) = true := by simp
        have hw2 := i64_in ((i : Int) + 1) (by omega) (by omega)
        have hw3 := i64_in ((j : Int) + 1) (by omega) (by omega)
        go_wp2_with fail
        go_round
        case rel => exact ⟨j + 1, by omega, by go_num, by rw [← hi]; go_num⟩
        case measure => simp [intOf]; omega
      · obtain rfl : j = m := by omega
        by_cases hN2 : Y + j < N
        · have k1 := HPg.out (Y + j) hN2
          have hne := HOut.out hN2
          generalize Sp.pf L ((Y + j : Nat) : Int) = z at k1 hne
          obtain ⟨i, hi⟩ : ∃ i, Y + j = i := ⟨_, rfl⟩
          rw [hi] at k1 ⊢
          have z2 : (0 : Int) ≤ (i : Int) := by omega
          have z3 : (i : Int) < (N : Int) := by omega
          have d3 : decide ((i : Int) < (N : Int)) = true := by simp; omega
          have d4 : (z == (Y : Int) + 1) = false := by simpa using hne
          go_wp2_with fail
          go_ret
          exact ⟨rfl, rfl⟩
        · obtain ⟨i, hi⟩ : ∃ i, Y + j = i := ⟨_, rfl⟩
          rw [hi]
          have d3 : decide ((i : Int) < (N : Int)) = false := by simp; omega
          go_wp2_with fail
          go_ret
          exact ⟨rfl, rfl⟩
  · have hz := len_not HI.out (y := (Y : Int)) (by omega) (by omega) h2
    rw [hz]
    generalize Sp.pf L (Y : Int) = z at k0 h2
    have d2 : (z != (Y : Int) + 1) = true := by simpa using h2
    clear hz HI h2
    go_enter Tryz.func19, Tryz.ntmps19
    go_wp2_with fail
    go_ret
    exact ⟨rfl, rfl⟩
end
end Go.Proofs.YtjnknnakllbaaaaGreat.Gr
