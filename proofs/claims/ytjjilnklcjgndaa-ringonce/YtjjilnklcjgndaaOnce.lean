/-
  The walk of the statement that each item is in one list at most.
-/
import Derived.Test.YtjjilnklcjgndaaCount
namespace Go.Proofs.Ytjjilnklcjgndaa
open Go.RowKit

set_option maxRecDepth 100000 in
set_option maxHeartbeats 2000000 in
theorem once_great (n m : Int) (A : Option Addr) (N c : Nat) (w : World) (h : 100 < n ∨ 20 < m ∨ 200 < N) :
    Calls Try.prog 4 #[.int .i64 n, .int .i64 m, .slice A N c] w fun e w' => e = .returned (.bool true) ∧ Below w.heap.size w w' := by
  have hd : decide (100 < n ∨ 20 < m ∨ 200 < N) = true := by simpa using h
  have HG : Hid (∀ W, Calls Try.prog 7 #[.int .i64 n, .int .i64 m, .slice A N c] W fun e w' => e = .returned (.bool true) ∧ W = w') := fun W => by
    have := great_any n m A N c W; rwa [hd] at this
  clear hd h
  go_enter Try.func4, Try.ntmps4
  go_wp2_with fail
  refine (alive_any _).mono ?_
  rintro e w1 ⟨rfl, B1⟩
  have HB := Lib.hid B1
  clear B1
  go_wp2_with (go_at_call 7; refine (HG.out _).mono ?_; rintro e w' ⟨rfl, rfl⟩)
  go_ret
  exact ⟨rfl, HB.out⟩
set_option maxRecDepth 100000 in
set_option maxHeartbeats 2000000 in
theorem once_no (n m : Int) (A : Option Addr) (N c : Nat) (w : World) (h : ¬ (100 < n ∨ 20 < m ∨ 200 < N)) (h2 : n < 0 ∨ m < 1) :
    Calls Try.prog 4 #[.int .i64 n, .int .i64 m, .slice A N c] w fun e w' => e = .returned (.bool true) ∧ Below w.heap.size w w' := by
  have hd : decide (100 < n ∨ 20 < m ∨ 200 < N) = false := by simpa using h
  have HG : Hid (∀ W, Calls Try.prog 7 #[.int .i64 n, .int .i64 m, .slice A N c] W fun e w' => e = .returned (.bool false) ∧ W = w') := fun W => by
    have := great_any n m A N c W; rwa [hd] at this
  have HNew := Lib.hid (fun W => new_no n m W (by omega))
  have HRNew := Lib.hid (fun W => rnew_no n m W (by omega))
  clear hd h h2
  go_enter Try.func4, Try.ntmps4
  go_wp2_with fail
  refine (alive_any _).mono ?_
  rintro e w1 ⟨rfl, B1⟩
  have HB := Lib.hid B1
  clear B1
  go_wp2_with (first | (go_at_call 7; refine (HG.out _).mono ?_; rintro e w' ⟨rfl, rfl⟩) | (go_at_call 8; refine (HNew.out _).mono ?_; rintro e w' ⟨rfl, rfl⟩) | (go_at_call 9; refine (HRNew.out _).mono ?_; rintro e w' ⟨rfl, rfl⟩))
  go_ret
  exact ⟨rfl, HB.out⟩
/-- What the loop over lists carries. -/
def Seen (w : World) (p : Pl) (L : Nat → List Nat) (gs : Nat) (f : Nat → Nat) (wr : World) : Prop := Ring wr p L ∧ Row wr gs p.n (fun x => (f x : Int)) ∧ p.hi ≤ gs ∧ w.heap.size ≤ p.lo ∧ Below w.heap.size w wr
theorem Seen.below {w wr w' : World} {p : Pl} {L : Nat → List Nat} {gs : Nat} {f : Nat → Nat} (h : Seen w p L gs f wr) (hb : Below wr.heap.size wr w') : Seen w p L gs f w' :=
  ⟨h.1.below hb, h.2.1.of (hb.block _ h.2.1.lt), h.2.2.1, h.2.2.2.1, up_trans h.2.2.2.2 hb⟩
theorem Seen.set {w wr : World} {p : Pl} {L : Nat → List Nat} {gs : Nat} {f g : Nat → Nat} (h : Seen w p L gs f wr) {x v : Nat} (hx : x < p.n) (hg : ∀ y, g y = up f x v y) : Seen w p L gs g (wr.setCell ⟨gs, x, none⟩ (.int .i64 (v : Int))) := by
  have e : g = up f x v := funext hg
  have hc : Chg gs (gs + 1) wr (wr.setCell ⟨gs, x, none⟩ (.int .i64 (v : Int))) := Chg.set wr _ (Nat.le_refl _) (by omega)
  have hlh : p.lo ≤ p.hi := by have := h.1.ok.q1; omega
  exact ⟨h.1.far hc (.inl h.2.2.1), by rw [e]; exact h.2.1.setn hx v, h.2.2.1, h.2.2.2.1, h.2.2.2.2.setCell (p := ⟨gs, x, none⟩) (by have := h.2.2.1; have := h.2.2.2.1; show _ ≤ gs; omega) _⟩
set_option maxRecDepth 100000 in
set_option maxHeartbeats 8000000 in
theorem once_main (n m : Nat) (A : Option Addr) (l : List (Int × Int × Int)) (c : Nat) (w : World) (hcs : CA w.heap.size w A l) (hn : n ≤ 100) (hm1 : 1 ≤ m) (hm : m ≤ 20) (hl : l.length ≤ 200) :
    Calls Try.prog 4 #[.int .i64 (n : Int), .int .i64 (m : Int), .slice A l.length c] w fun e w' => e = .returned (.bool true) ∧ Below w.heap.size w w' := by
  obtain ⟨N, hN⟩ : ∃ N, l.length = N := ⟨_, rfl⟩
  have HG : Hid (∀ W, Calls Try.prog 7 #[.int .i64 (n : Int), .int .i64 (m : Int), .slice A N c] W fun e w' => e = .returned (.bool false) ∧ W = w') := fun W => by
    have := great_any n m A N c W
    rwa [show decide (100 < (n : Int) ∨ 20 < (m : Int) ∨ 200 < N) = false by rw [decide_eq_false_iff_not]; omega] at this
  have HC := Lib.hid hcs
  have HNN := Lib.hid hN
  rw [hN] at hl ⊢
  have mk := make_ints n n (by omega) (by omega)
  clear hcs hN
  go_enter Try.func4, Try.ntmps4
  go_wp2_with fail
  refine (alive_any _).mono ?_
  rintro e w1 ⟨rfl, b1⟩
  have B1 := Lib.hid b1
  clear b1
  go_wp2_with fail
  refine (HG.out _).mono ?_; rintro e w' ⟨rfl, rfl⟩
  go_wp2_with fail
  refine (new_yes n m (by omega) (by omega) (by omega) w1).mono ?_
  rintro e w2 ⟨p, rfl, hpn, hpm, hlo, r2, b2⟩
  have HPN := Lib.hid hpn
  have HPM := Lib.hid hpm
  have HLO : Hid (w.heap.size ≤ p.lo) := by show _ ≤ _; rw [hlo]; exact B1.out.size
  have R2 := Lib.hid r2
  have B2 := Lib.hid (up_trans B1.out b2)
  clear hpn hpm hlo r2 b2 B1
  go_wp2_with fail
  refine (rnew_yes n m (by omega) (by omega) (by omega) w2).mono ?_
  rintro e w3 ⟨rfl, r3, b3⟩
  have T3 : Hid (Both w3 p w2.heap.size (fun _ => [])) := both_new HPN.out HPM.out R2.out r3 b3
  have B3 := Lib.hid (up_trans B2.out b3)
  obtain ⟨g, hg⟩ : ∃ g, w2.heap.size = g := ⟨_, rfl⟩
  rw [hg] at T3 ⊢
  clear r3 b3 R2 B2 hg
  go_wp2_with fail
  go_loopw [11] (fun i wr => ∃ (k : Nat) (L : Nat → List Nat), k ≤ N ∧ i = .int .i64 k ∧ Both wr p g L ∧ Below w.heap.size w wr) (fun i _ => N - (intOf i).toNat)
  case atStart => exact ⟨0, _, by omega, rfl, T3.out, B3.out⟩
  case round =>
    obtain ⟨k, L, hk, rfl, hb, hbel⟩ := hrel
    have HB := Lib.hid hb
    have HBe := Lib.hid hbel
    clear hb hbel T3 B3
    by_cases hlt : k < N
    · obtain ⟨cb, co, rfl, hcb, hcl⟩ := (HC.out.below HBe.out) (by rw [HNN.out]; omega)
      obtain ⟨c0, c1, c2⟩ := hcl k (by rw [HNN.out]; exact hlt)
      obtain ⟨z, hz⟩ : ∃ z, l.getD k (0, 0, 0) = z := ⟨_, rfl⟩
      rw [hz] at c0 c1 c2
      obtain ⟨z0, z1, z2⟩ := z
      have HT := Lib.hid (told_any z0 z1 z2 HB.out)
      have i1 : (0 : Int) ≤ (k : Int) := by omega
      have i2 : (k : Int) < (N : Int) := by omega
      clear hz hcl mk
      go_wp2_with fail
      refine HT.out.mono ?_
      intro e w4 ht
      have he := ht.1
      subst he
      obtain ⟨_, ⟨L', hb'⟩, hc', _⟩ := ht
      have HB' := Lib.hid hb'
      have HBe' := Lib.hid (hc'.on HBe.out HLO.out (Nat.le_refl _))
      clear hb' hc' HT c0 c1 c2
      go_wp2
      go_roundw
      case rel => exact ⟨k + 1, L', by omega, by go_num, HB'.out, HBe'.out⟩
      case measure => simp [intOf]; omega
    · obtain rfl : k = N := by omega
      have S0 : Hid (Seen w p L wr.heap.size (cnt L 0) (wr.alloc (.cells (madeCells #[.int .i64 0] n) 3))) := by
        have hal : Below wr.heap.size wr (wr.alloc (.cells (madeCells #[.int .i64 0] n) 3)) := up_alloc (Below.refl _ _) _
        exact ⟨HB.out.ring.below hal, by rw [HPN.out]; exact Row.made wr n, HB.out.ring.sz, HLO.out, up_trans HBe.out hal⟩
      have HGd : Hid (Good n m L) := by have := HB.out.ring.good; rw [HPN.out, HPM.out] at this; exact this
      obtain ⟨gs, hgs⟩ : ∃ gs, wr.heap.size = gs := ⟨_, rfl⟩
      go_wp2_with fail
      rw [hgs] at S0
      clear HB HBe hgs mk HC HG
      go_loopw [13, 14] (fun t i wr => ∃ I : Nat, I ≤ m ∧ i = .int .i64 I ∧ t = .int .i64 (tot L I : Int) ∧ Seen w p L gs (cnt L I) wr) (fun _ i _ => m - (intOf i).toNat)
      case atStart => exact ⟨0, by omega, rfl, rfl, S0.out⟩
      case round =>
        obtain ⟨I, hI, rfl, rfl, hs⟩ := hrel
        have HS := Lib.hid hs
        clear hs S0
        by_cases hlt2 : I < m
        · have hof : of L (I : Int) = L I := of_nat L I
          have HAll := Lib.hid (all_r (i := (I : Int)) HS.out.1)
          rw [hof] at HAll
          have hle : (L I).length ≤ n := HGd.out.len I
          have hto : tot L I ≤ 20 * 100 := by
            have h1 := tot_le HGd.out I
            have h2 : I * n ≤ 20 * 100 := Nat.mul_le_mul (by omega) hn
            omega
          have HGL := Lib.hid (HGd.out.lt I)
          have HNd := Lib.hid (HGd.out.nd I)
          have HCnt : Hid (∀ x, cnt L (I + 1) x = cnt L I x + (L I).count x) := fun _ => rfl
          have HTot : Hid (tot L (I + 1) = tot L I + (L I).length) := rfl
          have HFirst : Hid (∀ W, Ring W p L → Calls Try.prog 15 #[.pointer (some ⟨p.q, 0, none⟩), .int .i64 (I : Int)] W fun e w' => e = .returned (.int .i64 (hd (L I))) ∧ W = w') := fun W hW => by
            have := first_r (i := (I : Int)) hW; rwa [hof] at this
          have HLen : Hid (∀ W, Ring W p L → Calls Try.prog 16 #[.pointer (some ⟨p.q, 0, none⟩), .int .i64 (I : Int)] W fun e w' => e = .returned (.int .i64 ((L I).length : Int)) ∧ W = w') := fun W hW => by
            have := len_r (i := (I : Int)) hW; rwa [hof] at this
          have HIn : Hid (∀ (W : World) (X : Nat), Ring W p L → X ∈ L I → Calls Try.prog 13 #[.pointer (some ⟨p.q, 0, none⟩), .int .i64 (X : Int)] W fun e w' => e = .returned (.int .i64 (I : Int)) ∧ W = w') := fun W X hW hX => in_r hW (.inl ⟨X, I, rfl, hX, rfl⟩)
          have HNext : Hid (∀ (W : World) (X : Nat) (A C : List Nat), Ring W p L → L I = A ++ X :: C → Calls Try.prog 14 #[.pointer (some ⟨p.q, 0, none⟩), .int .i64 (X : Int)] W fun e w' => e = .returned (.int .i64 (hd C)) ∧ W = w') := fun W X A C hW hl => next_r hW (.inl ⟨X, I, A, C, rfl, hl, rfl⟩)
          clear hof
          generalize L I = xs at HAll hle HGL HNd HCnt HTot HFirst HLen HIn HNext
          obtain ⟨N2, hN2⟩ : ∃ N2, xs.length = N2 := ⟨_, rfl⟩
          have HN2 := Lib.hid hN2
          rw [hN2] at hle HTot HLen
          clear hN2
          go_wp2_with fail
          refine HAll.out.mono ?_
          rintro e w5 ⟨gl, cap, rfl, hgl, ia5, b5⟩
          rw [HN2.out]
          have S5 := Lib.hid (HS.out.below b5)
          have IA5 := Lib.hid ia5
          have HGsl : Hid (gs + 1 ≤ gl) := Nat.lt_of_lt_of_le HS.out.2.1.lt hgl
          clear b5 ia5 hgl HAll HS
          go_wp2_with fail
          refine (HFirst.out _ S5.out.1).mono ?_
          rintro e w' ⟨rfl, rfl⟩
          clear HFirst
          go_wp2_with fail
          go_loopw [16, 17] (fun x k wr => ∃ K : Nat, K ≤ N2 ∧ k = .int .i64 K ∧ x = .int .i64 (hd (xs.drop K)) ∧ Seen w p L gs (fun y => cnt L I y + (xs.take K).count y) wr ∧ IA w5.heap.size wr (some ⟨gl, 0, none⟩) xs ∧ w5.heap.size ≤ wr.heap.size) (fun _ k _ => N2 - (intOf k).toNat)
          case atStart => exact ⟨0, by omega, rfl, rfl, S5.out, IA5.out, Nat.le_refl _⟩
          case round =>
            obtain ⟨K, hK, rfl, rfl, hs, hia, hsz⟩ := hrel
            have HS := Lib.hid hs
            have HIA := Lib.hid hia
            have HSz := Lib.hid hsz
            clear hs hia hsz S5 IA5
            by_cases hlt3 : K < N2
            · have hkl : K < xs.length := by rw [HN2.out]; exact hlt3
              have HCut := Lib.hid (cut_at hkl)
              have e1 : hd (xs.drop K) = (xs[K] : Int) := by rw [List.drop_eq_getElem_cons hkl]; rfl
              have HE2 : Hid (xs.take (K + 1) = xs.take K ++ [xs[K]]) := by show _ = _; rw [List.take_succ_eq_append_getElem hkl]
              have hmem : xs[K] ∈ xs := List.getElem_mem hkl
              have q1 : wr.cell? ⟨gl, K, none⟩ = some (.int .i64 ((xs[K] : Nat) : Int)) := by
                obtain ⟨b, o, e, _, hc⟩ := HIA.out (by omega)
                cases e
                have := hc K hkl
                rw [Nat.zero_add, List.getD_eq_getElem?_getD, List.getElem?_eq_getElem hkl] at this
                exact this
              rw [e1]
              obtain ⟨X, hX⟩ : ∃ X, xs[K] = X := ⟨_, rfl⟩
              rw [hX] at HCut HE2 hmem q1 ⊢
              have hXn := HGL.out X hmem
              have HXp : Hid (X < p.n) := by show _ < _; rw [HPN.out]; exact hXn
              have q2 := HS.out.2.1.cell HXp.out
              have q3 := HS.out.2.1.frozen X
              obtain ⟨v, hv⟩ : ∃ v, cnt L I X + (xs.take K).count X = v := ⟨_, rfl⟩
              have q2' : wr.cell? ⟨gs, X, none⟩ = some (.int .i64 (v : Int)) := by rw [← hv]; exact q2
              have hv2 : v ≤ 100000 := by
                have h1 : (xs.take K).count X ≤ (xs.take K).length := List.count_le_length
                have h2 : (xs.take K).length ≤ K := by rw [List.length_take]; omega
                have h3 : cnt L I X ≤ 1 := by
                  obtain ⟨_, _, h | h⟩ := cnt_all HGd.out X
                  all_goals (have := cnt_le L X (i := I) (j := m) (by omega); omega)
                omega
              have HV := Lib.hid hv
              have d1 : ((X : Int) != (X : Int)) = false := by simp
              have d2 : decide ((X : Int) < 0) = false := by simp
              have d3 : decide ((n : Int) ≤ (X : Int)) = false := by simp; omega
              have d4 : ((I : Int) != (I : Int)) = false := by simp
              have j1 : (0 : Int) ≤ (K : Int) := by omega
              have j2 : (K : Int) < (N2 : Int) := by omega
              have j3 : (0 : Int) ≤ (X : Int) := by omega
              have j4 : (X : Int) < (n : Int) := by omega
              have HIn' := Lib.hid (HIn.out wr X HS.out.1 hmem)
              have S6 : Hid (Seen w p L gs (fun y => cnt L I y + (xs.take (K + 1)).count y) (wr.setCell ⟨gs, X, none⟩ (.int .i64 ((v + 1 : Nat) : Int)))) := by
                refine HS.out.set HXp.out (fun y => ?_)
                rw [HE2.out, List.count_append]
                by_cases ey : y = X
                · subst ey; rw [up_at, ← HV.out]; simp; omega
                · rw [up_far ey, List.count_cons_of_ne (fun h => ey h.symm)]; simp
              have IA6 : Hid (IA w5.heap.size (wr.setCell ⟨gs, X, none⟩ (.int .i64 ((v + 1 : Nat) : Int))) (some ⟨gl, 0, none⟩) xs) := HIA.out.far (Chg.set wr _ (Nat.le_refl _) (Nat.lt_succ_self _)) HGsl.out HSz.out
              have HNx := Lib.hid (HNext.out _ X _ _ S6.out.1 HCut.out)
              simp only [Int.natCast_add, Int.natCast_one] at S6 IA6 HNx
              clear hv q2 hX e1 hkl hmem
              go_wp2_with (first | (go_at_call 13; refine HIn'.out.mono ?_; rintro e w' ⟨rfl, rfl⟩) | (go_at_call 14; refine HNx.out.mono ?_; rintro e w' ⟨rfl, rfl⟩))
              go_roundw
              case rel => exact ⟨K + 1, by omega, by go_num, rfl, S6.out, IA6.out, by rw [set_size]; exact HSz.out⟩
              case measure => simp [intOf]; omega
            · obtain rfl : K = N2 := by omega
              have e1 : xs.drop K = [] := List.drop_eq_nil_of_le (by rw [HN2.out]; omega)
              have e2 : xs.take K = xs := List.take_of_length_le (by rw [HN2.out]; omega)
              rw [e2] at HS
              rw [e1]
              have e3 : hd [] = -1 := rfl
              rw [e3]
              have HLen' := Lib.hid (HLen.out wr HS.out.1)
              have d1 : ((K : Int) != (K : Int)) = false := by simp
              clear e1 e2 e3
              go_wp2_with (go_at_call 16; refine HLen'.out.mono ?_; rintro e w' ⟨rfl, rfl⟩)
              go_roundw
              case rel =>
                refine ⟨I + 1, by omega, by go_num, by rw [HTot.out]; rfl, ?_⟩
                have : cnt L (I + 1) = fun y => cnt L I y + xs.count y := funext HCnt.out
                rw [this]; exact HS.out
              case measure => simp [intOf]; omega
        · obtain rfl : I = m := by omega
          have HSm := Lib.hid (sm_cnt HGd.out I)
          have hto : tot L I ≤ 20 * 100 := by
            have h1 := tot_le HGd.out I
            have h2 : I * n ≤ 20 * 100 := Nat.mul_le_mul (by omega) hn
            omega
          go_wp2_with fail
          go_loopw [13, 18] (fun t i wr => ∃ k : Nat, k ≤ n ∧ i = .int .i64 k ∧ t = .int .i64 ((tot L I : Int) - (sm (cnt L I) k : Int)) ∧ Seen w p L gs (cnt L I) wr) (fun _ i _ => n - (intOf i).toNat)
          case atStart => exact ⟨0, by omega, rfl, by simp [sm], HS.out⟩
          case round =>
            obtain ⟨k, hk, rfl, rfl, hs⟩ := hrel
            have HS2 := Lib.hid hs
            clear hs HS
            have hle : sm (cnt L I) k ≤ tot L I := by rw [← HSm.out]; exact sm_le k n hk (fun _ => rfl)
            obtain ⟨T, hT⟩ : ∃ T, (tot L I : Int) - (sm (cnt L I) k : Int) = T := ⟨_, rfl⟩
            have hT0 : 0 ≤ T := by omega
            have hT1 : T ≤ 2000 := by omega
            rw [hT]
            have HT := Lib.hid hT
            clear hT hle
            by_cases hlt3 : k < n
            · obtain ⟨v, hv, hz⟩ := cnt_all HGd.out k
              have HKp : Hid (k < p.n) := by show _ < _; rw [HPN.out]; exact hlt3
              have q1 := HS2.out.2.1.cell HKp.out
              have HQ : Hid (∀ a, Calls Try.prog 13 #[.pointer (some ⟨p.q, 0, none⟩), .int .i64 (k : Int)] (wr.drewN a) fun e w' => e = .returned (.int .i64 v) ∧ ∃ j, w' = wr.drewN j) := fun a =>
                (in_r (HS2.out.1.below (up_drew (Below.refl _ wr) a)) hv).mono fun e w' ⟨he, hw⟩ => ⟨he, a, hw.symm⟩
              have j1 : (0 : Int) ≤ (k : Int) := by omega
              have j2 : (k : Int) < (n : Int) := by omega
              rcases hz with ⟨hz, hv0⟩ | ⟨hz, rfl⟩
              · have HZ := Lib.hid hz
                have q1' : wr.cell? ⟨gs, k, none⟩ = some (.int .i64 1) := by rw [q1, hz]; rfl
                have dv : decide (0 ≤ v) = true := by simpa using hv0
                clear q1 hz hv
                go_wp2_with fail
                go_quiet ((go_at_call 13; exact HQ.out _))
                have hdr : Drawn wr (wr.drewN nq) := ⟨nq, rfl⟩
                have S3 := Lib.hid (HS2.out.below hdr.below)
                generalize wr.drewN nq = wd at hdr S3 ⊢
                have q2 := hdr.cell q1'
                clear hdr q1' HQ
                go_wp2
                go_roundw
                case rel => exact ⟨k + 1, by omega, by go_num, by rw [sm, HZ.out]; have := HT.out; congr 1; omega, S3.out⟩
                case measure => simp [intOf]; omega
              · have HZ := Lib.hid hz
                have q1' : wr.cell? ⟨gs, k, none⟩ = some (.int .i64 0) := by rw [q1, hz]; rfl
                clear q1 hz hv
                go_wp2_with fail
                go_quiet ((go_at_call 13; exact HQ.out _))
                have hdr : Drawn wr (wr.drewN nq) := ⟨nq, rfl⟩
                have S3 := Lib.hid (HS2.out.below hdr.below)
                generalize wr.drewN nq = wd at hdr S3 ⊢
                have q2 := hdr.cell q1'
                clear hdr q1' HQ
                go_wp2
                go_roundw
                case rel => exact ⟨k + 1, by omega, by go_num, by rw [sm, HZ.out]; have := HT.out; congr 1; omega, S3.out⟩
                case measure => simp [intOf]; omega
            · obtain rfl : k = n := by omega
              obtain rfl : T = 0 := by have := HT.out; have := HSm.out; omega
              go_wp2
              go_ret
              exact ⟨rfl, HS2.out.2.2.2.2⟩
theorem once_any (n m : Int) (A : Option Addr) (l : List (Int × Int × Int)) (c : Nat) (w : World) (hcs : CA w.heap.size w A l) :
    Calls Try.prog 4 #[.int .i64 n, .int .i64 m, .slice A l.length c] w fun e w' => e = .returned (.bool true) ∧ Below w.heap.size w w' := by
  by_cases h : 100 < n ∨ 20 < m ∨ 200 < l.length
  · exact once_great n m A _ c w h
  · by_cases h2 : n < 0 ∨ m < 1
    · exact once_no n m A _ c w h h2
    · obtain ⟨n, rfl⟩ := Int.eq_ofNat_of_zero_le (show 0 ≤ n by omega)
      obtain ⟨m, rfl⟩ := Int.eq_ofNat_of_zero_le (show 0 ≤ m by omega)
      exact once_main n m A l c w hcs (by omega) (by omega) (by omega) (by omega)
end Go.Proofs.Ytjjilnklcjgndaa
