/-
  What the document's ground is asked: contracts that the claimed proof uses.
-/
import Derived.Test.YtjnknnakllbaaaaGreatGrRef
import Derived.Test.YtjnknnakllbaaaaGreatGrSum
namespace Go.Proofs.YtjnknnakllbaaaaGreat.Gr
set_option maxRecDepth 100000
open Go.RowKit

section
variable {B P N : Nat} {w w' : World} {x : Rp} {v : Value} {L L' : List Sp.Rn} {f f' : Ra.Ws} {t t' : Int} {S S' : List Le.Row}
theorem pg_zero (hi : Inv N L f S) {i : Nat} (h : i < N) : (Sp.pf L (i : Int) = 0 ↔ f i = 0) := by
  rcases hi.pg i (by omega) with ⟨a, b⟩ | ⟨a, e, h0, _⟩
  · simp [a, b]
  · constructor
    · intro h; omega
    · intro h; exact absurd h h0
set_option maxHeartbeats 2000000 in
theorem rfree_any (h : Rg B w P x v N L f t S) (hi : Inv N L f S) : Calls Tryz.prog 13 #[.pointer (some ⟨P, 0, none⟩)] w fun e w' => e = .returned (.int .i64 (Sp.fsum L)) ∧ w = w' := by
  have c1 := h.c1
  have c2 := h.sp.slice
  have HPg := Lib.hid (fun (i : Nat) (hi : i < N) => h.sp.2.1.cell hi)
  have HZ := Lib.hid (fun (i : Nat) (h : i < N) => pg_zero hi h)
  have hN : N ≤ 4096 := by have := hi.n1; omega
  have HF := Lib.hid hi.fsum
  obtain ⟨g, hg⟩ : ∃ g, x.g = g := ⟨_, rfl⟩
  obtain ⟨q, hq⟩ : ∃ q, x.q = q := ⟨_, rfl⟩
  rw [hg] at c2 HPg
  rw [hq] at c1 c2
  obtain ⟨E, hE⟩ : ∃ E, Sp.fsum L = E := ⟨_, rfl⟩
  rw [hE] at HF ⊢
  clear h hg hq hi hE
  go_enter Tryz.func13, Tryz.ntmps13
  go_wp2_with fail
  go_loop [3, 4] (fun n i => ∃ k : Nat, k ≤ N ∧ n = .int .i64 ((k : Int) - Gr.cw nz f k) ∧ i = .int .i64 k) (fun _ i => N - (intOf i).toNat)
  case atStart => exact ⟨0, by omega, rfl, rfl⟩
  case round =>
    obtain ⟨k, hk, rfl, rfl⟩ := hrel
    by_cases hlt : k < N
    · have k1 := HPg.out k hlt
      have hz := HZ.out k hlt
      have z2 : (0 : Int) ≤ (k : Int) := by omega
      have z3 : (k : Int) < (N : Int) := by omega
      have HC : Hid (Gr.cw nz f (k + 1) = Gr.cw nz f k + (if nz (f k) = true then 1 else 0)) := rfl
      have hcl := cw_le nz f k
      generalize Sp.pf L (k : Int) = z at k1 hz
      obtain ⟨cc, hcc⟩ : ∃ cc : Int, (k : Int) - (Gr.cw nz f k : Int) = cc := ⟨_, rfl⟩
      have HCC := Lib.hid hcc
      have hb : 0 ≤ cc ∧ cc ≤ k := by omega
      rw [hcc]
      by_cases h0 : z = 0
      · have hn : Hid (nz (f k) = false) := by show _ = _; simp [nz, hz.1 h0]
        subst h0
        have d0 : ((0 : Int) == 0) = true := rfl
        have hw := i64_in (cc + 1) (by omega) (by omega)
        clear hz hcc
        go_wp2_with fail
        go_round
        case rel => exact ⟨k + 1, by omega, by (have h1 := HC.out; rw [hn.out] at h1; have h2 := HCC.out; simp at h1; congr 1; rw [h1]; push_cast; omega), by go_num⟩
        case measure => simp [intOf]; omega
      · have hn : Hid (nz (f k) = true) := by show _ = _; simp [nz]; exact fun e => h0 (hz.2 e)
        have d0 : (z == 0) = false := by simpa using h0
        clear hz hcc
        go_wp2_with fail
        go_round
        case rel => exact ⟨k + 1, by omega, by (have h1 := HC.out; rw [hn.out] at h1; have h2 := HCC.out; simp at h1; congr 1; rw [h1]; push_cast; omega), by go_num⟩
        case measure => simp [intOf]; omega
    · obtain rfl : k = N := by omega
      have he : (k : Int) - (Gr.cw nz f k : Int) = E := by have := HF.out; simp only [Int.toNat_natCast] at this; omega
      rw [he]
      go_wp2_with fail
      go_ret
      exact ⟨rfl, rfl⟩
/-- An address's entry. -/
theorem rat_any (a : Int) (ha : Ra.I64 a) (h : Rg B w P x v N L f t S) (hs : Ra.St (N : Int) t f) : Calls Tryz.prog 15 #[.pointer (some ⟨P, 0, none⟩), .int .i64 a] w fun e w' =>
    e = .returned (.tuple #[Ra.entV (Ra.wAt N f (a / 256)), .bool (Ra.wAt N f (a / 256) != 0)]) ∧ Below w.heap.size w w' := by
  have B0 := Lib.hid (up_alloc (Below.refl _ w) (.cells #[.int .i64 0, .int .i64 0, .int .i64 0, .int .i64 0] 55))
  have K0 : Hid (Ra.Blk (w.alloc (.cells #[.int .i64 0, .int .i64 0, .int .i64 0, .int .i64 0] 55)) w.heap.size [.int .i64 0, .int .i64 0, .int .i64 0, .int .i64 0] 55) := heap_alloc_last w _
  have h0 := h.below B0.out
  have c2 := h0.c2
  have HG := Lib.hid (fun P => Ra.rget_any P h0.mp hs)
  have hneg : Hid (a < 0 → Ra.wAt N f (a / 256) = 0) := fun hn => by unfold Ra.wAt; rw [if_neg (fun h => by unfold Ra.inB at h; simp at h; omega)]
  have f0 := K0.out.frozen 0
  have f1 := K0.out.frozen 1
  have f2 := K0.out.frozen 2
  have f3 := K0.out.frozen 3
  have d0 := K0.out.cell (i := 0)
  have d1 := K0.out.cell (i := 1)
  have d2 := K0.out.cell (i := 2)
  have d3 := K0.out.cell (i := 3)
  simp only [List.getElem?_cons_zero, List.getElem?_cons_succ] at d0 d1 d2 d3
  have E0 : Hid (Ra.spanOf 0 = 0 ∧ Ra.verOf 0 = 0 ∧ Ra.clsOf 0 = 0 ∧ Ra.staOf 0 = 0) := by show _ ∧ _; decide +kernel
  by_cases hn : a < 0
  · have e0 : decide (a < 0) = true := by simpa using hn
    have hz := hneg.out hn
    rw [hz]
    clear h h0 ha hz HG
    go_enter Tryz.func15, Tryz.ntmps15
    go_wp2_with fail
    obtain ⟨z1, z2, z3, z4⟩ := E0.out
    exact bodyPost_ret (v := .tuple #[.agg #[.int .i64 0, .int .i64 0, .int .i64 0, .int .i64 0], .bool false]) (by simp [results, Tryz.results15, go_sem, d0, d1, d2, d3]) rfl ⟨by unfold Ra.entV; rw [z1, z2, z3, z4]; rfl, B0.out⟩
  · have e0 : decide (a < 0) = false := by simpa using hn
    have e1 : a.tdiv 256 = a / 256 := by rw [Int.tdiv_eq_ediv_of_nonneg (by omega)]
    have hw := i64_in (a / 256) (by unfold Ra.I64 at ha; omega) (by unfold Ra.I64 at ha; omega)
    have HG2 := Lib.hid (HG.out (a / 256))
    generalize Ra.wAt N f (a / 256) = X at HG2 ⊢
    clear h h0 ha HG hneg
    go_enter Tryz.func15, Tryz.ntmps15
    go_wp2_with fail
    refine HG2.out.mono ?_
    rintro e w1 ⟨rfl, b1⟩
    have K1 := Lib.hid (K0.out.below b1 K0.out.lt)
    have B1 := Lib.hid (up_trans B0.out b1)
    clear b1 HG2 c2 d0 d1 d2 d3 f0 f1 f2 f3
    have d0 : w1.cell? ⟨w.heap.size, 0, none⟩ = some (.int .i64 0) := K1.out.cell
    have d1 : w1.cell? ⟨w.heap.size, 1, none⟩ = some (.int .i64 0) := K1.out.cell
    have d2 : w1.cell? ⟨w.heap.size, 2, none⟩ = some (.int .i64 0) := K1.out.cell
    have d3 : w1.cell? ⟨w.heap.size, 3, none⟩ = some (.int .i64 0) := K1.out.cell
    have f0 := K1.out.frozen 0
    have f1 := K1.out.frozen 1
    have f2 := K1.out.frozen 2
    have f3 := K1.out.frozen 3
    unfold Ra.entV
    go_wp2_with fail
    have K9 := Lib.hid (Ra.four_set K1.out (.int .i64 (Ra.spanOf X)) (.int .i64 (Ra.verOf X)) (.int .i64 (Ra.clsOf X)) (.int .i64 (Ra.staOf X)))
    have B9 := Lib.hid (Ra.four_below B1.out (Nat.le_refl _) (.int .i64 (Ra.spanOf X)) (.int .i64 (Ra.verOf X)) (.int .i64 (Ra.clsOf X)) (.int .i64 (Ra.staOf X)))
    generalize (((w1.setCell ⟨w.heap.size, 0, none⟩ (.int .i64 (Ra.spanOf X))).setCell ⟨w.heap.size, 1, none⟩ (.int .i64 (Ra.verOf X))).setCell ⟨w.heap.size, 2, none⟩ (.int .i64 (Ra.clsOf X))).setCell ⟨w.heap.size, 3, none⟩ (.int .i64 (Ra.staOf X)) = W9 at K9 B9 ⊢
    have g0 : W9.cell? ⟨w.heap.size, 0, none⟩ = some (.int .i64 (Ra.spanOf X)) := K9.out.cell
    have g1 : W9.cell? ⟨w.heap.size, 1, none⟩ = some (.int .i64 (Ra.verOf X)) := K9.out.cell
    have g2 : W9.cell? ⟨w.heap.size, 2, none⟩ = some (.int .i64 (Ra.clsOf X)) := K9.out.cell
    have g3 : W9.cell? ⟨w.heap.size, 3, none⟩ = some (.int .i64 (Ra.staOf X)) := K9.out.cell
    exact bodyPost_ret (v := .tuple #[.agg #[.int .i64 (Ra.spanOf X), .int .i64 (Ra.verOf X), .int .i64 (Ra.clsOf X), .int .i64 (Ra.staOf X)], .bool (X != 0)]) (by simp [results, Tryz.results15, go_sem, g0, g1, g2, g3]) rfl ⟨rfl, B9.out⟩
/-- May a span be taken? -/
theorem rcan_any (n a : Int) (h : Rg B w P x v N L f t S) (hi : Inv N L f S) : Calls Tryz.prog 27 #[.pointer (some ⟨P, 0, none⟩), .int .i64 n, .int .i64 a] w fun e w' => e = .returned (.bool (canB L n a)) ∧ Below w.heap.size w w' := by
  have c1 := h.c1
  have HA := Lib.hid (fun W => Sp.al_any a W)
  have hN : N ≤ 4096 := by have := hi.n1; omega
  have HP : Hid (Sp.powB a = true → a ≤ 4096 → Calls Tryz.prog 60 #[.pointer (some ⟨x.q, 0, none⟩), .int .i64 n, .int .i64 a] w fun e w' => e = .returned (.int .i64 (Sp.plv n a L)) ∧ Below w.heap.size w w') := fun h1 h2 => Sp.place_any h.sp hi.wf hN h1 h2
  have HI := Lib.hid hi
  clear h hi
  by_cases h1 : 1 ≤ n
  · have d1 : decide (1 ≤ n) = true := by simpa using h1
    by_cases h2 : Sp.powB a = true ∧ a ≤ 4096
    · have e2 : (decide (a ≤ 4096) && Sp.powB a) = true := by simp [h2.1, h2.2]
      rw [e2] at HA
      have HP2 := Lib.hid (HP.out h2.1 h2.2)
      have hc : canB L n a = decide (0 ≤ Sp.plv n a L) := by
        have hb : Sp.askB n a = true := by unfold Sp.askB; simp [h1, h2.1, h2.2]
        unfold canB Sp.plv
        rw [hb]
        rcases Sp.bst_is n a L L.length with ⟨hbs, _⟩ | ⟨k, hbs, hk, _⟩
        · rw [hbs]; rfl
        · rw [hbs, if_neg (by omega), Int.toNat_natCast]
          have hus := Sp.up_spec (Sp.el L k).p (Sp.powB_bd h2.1).1
          have hbd := HI.out.at hk
          have hnn : 0 ≤ Sp.up (Sp.el L k).p a := by omega
          simp [hnn]
      rw [hc]
      generalize Sp.plv n a L = z at HP2 ⊢
      obtain ⟨E, hE⟩ : ∃ E, decide (0 ≤ z) = E := ⟨_, rfl⟩
      rw [hE]
      clear hc e2 h2 HP
      go_enter Tryz.func27, Tryz.ntmps27
      go_wp2_with (first
        | (go_at_call 59; refine (HA.out _).mono ?_; rintro e w1 ⟨rfl, rfl⟩)
        | (go_at_call 60; refine HP2.out.mono ?_; rintro e w1 ⟨rfl, b1⟩; have B1 := Lib.hid b1; clear b1))
      go_ret
      exact ⟨rfl, B1.out⟩
    · have e2 : (decide (a ≤ 4096) && Sp.powB a) = false := by
        cases hc : (decide (a ≤ 4096) && Sp.powB a) with
        | false => rfl
        | true => simp at hc; exact absurd ⟨hc.2, hc.1⟩ h2
      rw [e2] at HA
      have hc : canB L n a = false := by
        unfold canB
        cases hk : Sp.askB n a with
        | false => rfl
        | true => obtain ⟨_, k2, k3⟩ := Sp.askB_parts hk; exact absurd ⟨k3, k2⟩ h2
      rw [hc]
      clear hc e2 h2 HP
      go_enter Tryz.func27, Tryz.ntmps27
      go_wp2_with (first
        | (go_at_call 59; refine (HA.out _).mono ?_; rintro e w1 ⟨rfl, rfl⟩))
      go_ret
      exact ⟨rfl, Below.refl _ _⟩
  · have d1 : decide (1 ≤ n) = false := by simpa using h1
    have hc : canB L n a = false := by
      unfold canB
      cases hk : Sp.askB n a with
      | false => rfl
      | true => exact absurd (Sp.askB_parts hk).1 h1
    rw [hc]
    clear hc HP
    go_enter Tryz.func27, Tryz.ntmps27
    go_wp2_with fail
    go_ret
    exact ⟨rfl, Below.refl _ _⟩
end
end Go.Proofs.YtjnknnakllbaaaaGreat.Gr
