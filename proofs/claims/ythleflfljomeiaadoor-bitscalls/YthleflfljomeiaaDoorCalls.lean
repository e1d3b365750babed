/-
  The law on rows of calls, walked: a contract that the claimed proof uses.
-/
import Derived.Test.YthleflfljomeiaaDoorRefs
import Derived.Deep.DeepCutAuto
namespace Go.Proofs.YthleflfljomeiaaDoor
open Go.RowKit

/-- What stands while the questions are asked. -/
def CallInv (q g gl gw gx : Nat) (l : List Bool) (ws : List (BitVec 64)) (w w' : World) : Prop :=
  Bits w' q g l ws ∧ Blk w' gl (brow l) 4 ∧ Tab w' ∧ Blk w' gw (wrow ws) 44 ∧ Blk w' gx (wrow ws) 44 ∧ Below w.heap.size w w'
theorem CallInv.below {q g gl gw gx : Nat} {l : List Bool} {ws : List (BitVec 64)} {w w' w2 : World} (h : CallInv q g gl gw gx l ws w w') (hb : Below w'.heap.size w' w2) : CallInv q g gl gw gx l ws w w2 :=
  ⟨h.1.below hb, h.2.1.below hb, h.2.2.1.below hb, h.2.2.2.1.below hb, h.2.2.2.2.1.below hb, up_trans h.2.2.2.2.2 hb⟩
set_option maxRecDepth 100000 in
theorem calls_out (n : Int) (A : Option Addr) (m c : Nat) (f x : Int) (set : Bool) (w : World) (hT : Tab w) (h : 600 < n ∨ 200 < m) :
    Calls Tryd.prog 3 #[.int .i64 n, .slice A m c, .int .i64 f, .int .i64 x, .bool set] w fun e w' => e = .returned (.bool true) ∧ Below w.heap.size w w' := by
  have ha := alive_any w hT
  have HA := Lib.hid ha
  clear ha hT
  by_cases h1 : 600 < n
  · have hd1 : decide (600 < n) = true := by simpa using h1
    go_enter Tryd.func3, Tryd.ntmps3
    go_wp2_with fail
    refine HA.out.mono ?_; rintro e w1 ⟨rfl, hb⟩
    go_wp2
    go_ret
    exact ⟨rfl, hb⟩
  · have hd1 : decide (600 < n) = false := by simpa using h1
    have hd2 : decide (200 < (m : Int)) = true := by simp; omega
    go_enter Tryd.func3, Tryd.ntmps3
    go_wp2_with fail
    refine HA.out.mono ?_; rintro e w1 ⟨rfl, hb⟩
    go_wp2
    go_ret
    exact ⟨rfl, hb⟩
set_option maxRecDepth 100000 in
theorem calls_neg (n : Int) (A : Option Addr) (m c : Nat) (f x : Int) (set : Bool) (w : World) (hT : Tab w) (hn : n < 0) (hm : m ≤ 200) :
    Calls Tryd.prog 3 #[.int .i64 n, .slice A m c, .int .i64 f, .int .i64 x, .bool set] w fun e w' => e = .returned (.bool true) ∧ Below w.heap.size w w' := by
  have ha := alive_any w hT
  have HA := Lib.hid ha
  have hd1 : decide (600 < n) = false := by simp; omega
  have hd2 : decide (200 < (m : Int)) = false := by simp; omega
  have hd3 : decide (n < 0) = true := by simpa using hn
  clear ha hT
  go_enter Tryd.func3, Tryd.ntmps3
  go_wp2_with fail
  refine HA.out.mono ?_; rintro e w1 ⟨rfl, hb⟩
  go_wp2_with fail
  refine (new_no n w1 hn).mono ?_; rintro e w2 ⟨rfl, rfl⟩
  go_wp2
  go_ret
  exact ⟨rfl, hb⟩
set_option maxRecDepth 100000 in
set_option maxHeartbeats 20000000 in
theorem calls_in (n : Nat) (A : Option Addr) (cs : List (Bool × Int)) (c : Nat) (f x : Int) (set : Bool) (w : World) (hT : Tab w) (hn : n ≤ 600) (hm : cs.length ≤ 200) (hca : CA w.heap.size w A cs) (hx63 : x ≤ 9223372036854775807) :
    Calls Tryd.prog 3 #[.int .i64 (n : Int), .slice A cs.length c, .int .i64 f, .int .i64 x, .bool set] w fun e w' => e = .returned (.bool true) ∧ Below w.heap.size w w' := by
  have ha := alive_any w hT
  have HA := Lib.hid ha
  have HT := Lib.hid hT
  have HCA := Lib.hid hca
  have hpos := hT.lt
  have hd : decide ((n : Int) < 0) = false := by simp
  have hd1 : decide (600 < (n : Int)) = false := by simp; omega
  clear ha hT hca
  obtain ⟨m, hmm⟩ : ∃ m, cs.length = m := ⟨_, rfl⟩
  have HMM := Lib.hid hmm
  rw [hmm] at hm ⊢
  have hd2 : decide (200 < (m : Int)) = false := by simp; omega
  clear hmm
  have hmk := make_bools n (by omega)
  go_enter Tryd.func3, Tryd.ntmps3
  go_wp2_with fail
  refine HA.out.mono ?_; rintro e w1 ⟨rfl, hb1⟩
  have B1 := Lib.hid hb1
  have z1 := hb1.size
  clear hb1
  go_wp2_with fail
  refine (new_yes n (by omega) w1 (by omega)).mono ?_
  rintro e w2 ⟨rfl, hm2, hb2, hs2⟩
  have B2 := Lib.hid hb2
  have M2 := Lib.hid hm2
  have z2 : w1.heap.size + 2 ≤ w2.heap.size := by omega
  clear hb2 hm2 hs2
  go_wp2_with fail
  have hbl := Blk.made w2 (.bool false) n 4
  rw [brow_none] at hbl
  have b3 : Below w2.heap.size w2 (w2.alloc (.cells (madeCells #[.bool false] n) 4)) := up_alloc (Below.refl _ _) _
  have hdo := do_any (w1.heap.size + 1) w1.heap.size w2.heap.size w1.heap.size (List.replicate n false) _ A cs c _ (M2.out.below b3) hbl (Nat.le_refl _) (by omega) (by have := b3.size; omega) (by omega) (by omega)
    ((HCA.out.below (up_trans B1.out B2.out |>.trans (b3.mono (by omega)))) |> fun h hp => by
      obtain ⟨b, o, e, h1, h2⟩ := h hp
      exact ⟨b, o, e, by omega, h2⟩) (by rw [HMM.out]; omega)
  rw [List.length_replicate, HMM.out] at hdo
  refine hdo.mono ?_
  obtain ⟨l, hl⟩ : ∃ l, after (List.replicate n false) cs m = l := ⟨_, rfl⟩
  have hll : l.length = n := by rw [← hl, after_length, List.length_replicate]
  rw [hl]
  rintro e w4 ⟨rfl, ⟨ws, hm4⟩, hbl4, hb4, hz4, _⟩
  have B4 := Lib.hid (up_trans B1.out (((B2.out.trans (b3.mono (by omega)))).trans hb4))
  have M4 := Lib.hid hm4
  have L4 := Lib.hid hbl4
  have T4 := Lib.hid (HT.out.drop B4.out hpos)
  have HL := Lib.hid hll
  clear hdo hl hm4 hb4 b3 hbl hll hbl4 hz4 M2 B2 B1 HCA
  go_wp2_with fail
  have hrl := rlist_any w2.heap.size l w4 L4.out (by rw [HL.out]; omega)
  rw [HL.out] at hrl
  refine hrl.mono ?_
  rintro e w5 ⟨g5, cap5, rfl, hg5, ia5, hb5⟩
  have B5 := Lib.hid (up_trans B4.out hb5)
  have M5 := Lib.hid (M4.out.below hb5)
  have L5 := Lib.hid (L4.out.below hb5)
  have T5 := Lib.hid (T4.out.below hb5)
  have I5 := Lib.hid ia5
  have hSl := sets_length_le l
  rw [HL.out] at hSl
  obtain ⟨S, hS⟩ : ∃ S, (sets l).length = S := ⟨_, rfl⟩
  rw [hS] at hSl ⊢
  have HS := Lib.hid hS
  clear hrl hb5 ia5 hS M4 L4 T4 B4 hmk hd hd1 hd2 HA HT HMM
  have hcase : (∃ Z : Nat, nthI (sets l) x = Z ∧ 0 ≤ x ∧ x < (S : Int) ∧ w5.cell? ⟨g5, x.toNat, none⟩ = some (.int .i64 (Z : Int))) ∨ (nthI (sets l) x = -1 ∧ x < 0) ∨ (nthI (sets l) x = -1 ∧ 0 ≤ x ∧ (S : Int) ≤ x) := by
    by_cases h0 : x < 0
    · exact Or.inr (Or.inl ⟨by unfold nthI; rw [if_neg (by omega)], h0⟩)
    · obtain ⟨V, rfl⟩ := Int.eq_ofNat_of_zero_le (by omega : 0 ≤ x)
      by_cases hV : V < S
      · obtain ⟨b, o, e, _, hc⟩ := I5.out (by rw [HS.out]; omega)
        cases e
        refine Or.inl ⟨(sets l).getD V 0, nthI_some ?_, by omega, by omega, ?_⟩
        · rw [List.getD_eq_getElem?_getD, List.getElem?_eq_getElem (by rw [HS.out]; exact hV)]; rfl
        · have := hc V (by rw [HS.out]; exact hV)
          rwa [Nat.zero_add] at this
      · exact Or.inr (Or.inr ⟨nthI_none (by rw [HS.out]; omega), by omega, by omega⟩)
  have HCase := Lib.hid hcase
  clear hcase
  obtain ⟨Z, B, hZ, hgo⟩ : ∃ (Z : Int) (B : Bool), nthI (sets l) x = Z ∧ ((B = true ∧ decide (0 ≤ x) = true ∧ decide (x < (S : Int)) = true ∧ 0 ≤ x ∧ x < (S : Int) ∧ w5.cell? ⟨g5, x.toNat, none⟩ = some (.int .i64 Z)) ∨ (B = false ∧ Z = -1 ∧ decide (0 ≤ x) = false) ∨ (B = false ∧ Z = -1 ∧ decide (0 ≤ x) = true ∧ decide (x < (S : Int)) = false)) := by
    rcases HCase.out with ⟨Z, h1, h2, h3, h4⟩ | ⟨h1, h2⟩ | ⟨h1, h2, h3⟩
    · exact ⟨Z, true, h1, Or.inl ⟨rfl, by simpa using h2, by simpa using h3, h2, h3, h4⟩⟩
    · exact ⟨-1, false, h1, Or.inr (Or.inl ⟨rfl, rfl, by simp; omega⟩)⟩
    · exact ⟨-1, false, h1, Or.inr (Or.inr ⟨rfl, rfl, by simpa using h2, by simp; omega⟩)⟩
  have HZ := Lib.hid hZ
  have hzz : (Z != Z) = false := by simp
  have HGo := Lib.hid hgo
  clear hZ HCase hgo
  go_upto_region 15 with fail
  go_cut [65] (fun s65 wx => s65 = .bool B ∧ w5 = wx)
  case first =>
    rcases HGo.out with ⟨rfl, hx0, hx1, x0, x1, qx⟩ | ⟨rfl, rfl, hx0⟩ | ⟨rfl, rfl, hx0, hx1⟩
    all_goals (go_wp2_with fail; go_meet; exact ⟨rfl, rfl⟩)
  case rest =>
  obtain ⟨rfl, rfl⟩ := hcut
  go_upto_if 65 with fail
  go_cut [15] (fun s15 wx => s15 = .int .i64 Z ∧ w5 = wx)
  case first =>
    rcases HGo.out with ⟨rfl, hx0, hx1, x0, x1, qx⟩ | ⟨rfl, rfl, hx0⟩ | ⟨rfl, rfl, hx0, hx1⟩
    all_goals (go_wp2_with fail; go_meet; exact ⟨rfl, rfl⟩)
  case rest =>
  obtain ⟨rfl, rfl⟩ := hcut
  clear HGo
  go_wp2_with fail
  refine (words_any _ _ _ _ w5 M5.out).mono ?_
  rintro e w6 ⟨rfl, hrow6, hb6⟩
  have B6 := Lib.hid (up_trans B5.out hb6)
  have M6 := Lib.hid (M5.out.below hb6)
  have L6 := Lib.hid (L5.out.below hb6)
  have T6 := Lib.hid (T5.out.below hb6)
  have R6 := Lib.hid hrow6
  have I6 := Lib.hid (I5.out.below hb6)
  have z6 := hb6.size
  clear hb6 hrow6
  go_wp2_with fail
  have hrw := rwords_any w2.heap.size l w6 L6.out (by rw [HL.out]; omega)
  rw [HL.out] at hrw
  refine hrw.mono ?_
  rintro e w7 ⟨ws7, rfl, hf7, hrow7, hb7⟩
  obtain rfl := fits_one hf7 M6.out.2.2.1
  have z7 : w5.heap.size ≤ w7.heap.size := Nat.le_trans z6 hb7.size
  have J7 : Hid (CallInv (w1.heap.size + 1) w1.heap.size w2.heap.size w5.heap.size w6.heap.size l ws7 w w7) := ⟨M6.out.below hb7, L6.out.below hb7, T6.out.below hb7, R6.out.below hb7, hrow7, up_trans B6.out hb7⟩
  have I7 := Lib.hid (I6.out.below (hb7.mono z6))
  have hLw := M6.out.many.2.1
  obtain ⟨L, hLL⟩ : ∃ L, ws7.length = L := ⟨_, rfl⟩
  rw [hLL] at hLw ⊢
  have HLL := Lib.hid hLL
  have h1 : ((L : Int) != (L : Int)) = false := by simp
  have h2 : ((n : Int) != (n : Int)) = false := by simp
  have h3 : ((S : Int) != (S : Int)) = false := by simp
  clear hrw hf7 hrow7 hb7 hLL M6 L6 T6 R6 I6 B6 M5 L5 T5 B5 I5
  go_upto_region 19 with fail
  go_cut [146] (fun s146 wx => s146 = .bool false ∧ CallInv (w1.heap.size + 1) w1.heap.size w2.heap.size w5.heap.size w6.heap.size l ws7 w wx)
  case first =>
    go_wp2_with fail
    have cl := len_any _ _ w7 J7.out.1.n
    rw [HL.out] at cl
    refine cl.mono ?_; rintro e w' ⟨rfl, rfl⟩
    clear cl
    go_wp2_with fail
    have cc := count_any _ _ _ _ w7 J7.out.1
    rw [HS.out] at cc
    refine cc.mono ?_; rintro e w' ⟨rfl, rfl⟩
    clear cc
    go_wp2_with fail
    refine (list_any _ _ _ _ w7 J7.out.1 J7.out.2.2.1).mono ?_
    rintro e w8 ⟨g8, cap8, rfl, hg8, ia8, hb8⟩
    have J8 := Lib.hid (J7.out.below hb8)
    have csm := same_any (some ⟨g8, 0, none⟩) (some ⟨g5, 0, none⟩) (sets l) (sets l) cap8 cap5 w8.heap.size w5.heap.size w8 ia8 (I7.out.below (hb8.mono z7)) (by rw [HS.out]; omega)
    rw [HS.out, decide_eq_true rfl] at csm
    have HCs := Lib.hid csm
    rw [HS.out]
    clear hb8 ia8 csm
    go_wp2_with fail
    refine HCs.out.mono ?_; rintro e w9 ⟨rfl, hd9⟩
    have J9 := Lib.hid (J8.out.below hd9.below)
    clear hd9 J7 J8 I7
    go_wp2_with fail
    have cf := first_any _ _ f _ _ set w9 J9.out.1 J9.out.2.2.1
    have crf := rfirst_any w2.heap.size f l set w9 J9.out.2.1 (by rw [HL.out]; omega)
    have cn := nth_any _ _ _ _ x w9 J9.out.1 J9.out.2.2.1 hx63
    have cr := run_any _ _ f x _ _ w9 J9.out.1 J9.out.2.2.1 hx63
    have crr := rrun_any w2.heap.size f x l w9 J9.out.2.1 (by rw [HL.out]; omega) hx63
    have ct := test_any _ _ _ _ f w9 J9.out.1
    rw [HL.out] at crf crr
    rw [HZ.out] at cn
    obtain ⟨Y, hY⟩ : ∃ Y, first l f.toNat set = Y := ⟨_, rfl⟩
    rw [hY] at cf crf
    obtain ⟨R, hR⟩ : ∃ R, runZ l f x = R := ⟨_, rfl⟩
    rw [hR] at cr crr
    obtain ⟨T, hT'⟩ : ∃ T, tst l f = T := ⟨_, rfl⟩
    rw [hT'] at ct
    have hyy : (Y != Y) = false := by simp
    have hrr : (R != R) = false := by simp
    have htt : (T != T) = false := by simp
    have C1 := Lib.hid cf
    have C2 := Lib.hid crf
    have C3 := Lib.hid cn
    have C4 := Lib.hid cr
    have C5 := Lib.hid crr
    have C6 := Lib.hid ct
    have HTv := Lib.hid hT'
    clear cf crf cn cr crr ct hY hR hT'
    refine C1.out.mono ?_; rintro e w' ⟨rfl, rfl⟩
    go_wp2_with fail
    refine C2.out.mono ?_; rintro e w' ⟨rfl, rfl⟩
    go_wp2_with fail
    refine C3.out.mono ?_; rintro e w' ⟨rfl, rfl⟩
    go_wp2_with fail
    refine C4.out.mono ?_; rintro e w' ⟨rfl, rfl⟩
    go_wp2_with fail
    refine C5.out.mono ?_; rintro e w' ⟨rfl, rfl⟩
    go_wp2_with fail
    refine C6.out.mono ?_; rintro e w10 ⟨rfl, hd10⟩
    have J10 := Lib.hid (J9.out.below hd10.below)
    have hcf : (decide (0 ≤ f) = true ∧ decide (f < (n : Int)) = true ∧ 0 ≤ f ∧ f < (n : Int) ∧ w10.cell? ⟨w2.heap.size, f.toNat, none⟩ = some (.bool T)) ∨ (T = false ∧ decide (0 ≤ f) = false) ∨ (T = false ∧ decide (0 ≤ f) = true ∧ decide (f < (n : Int)) = false) := by
      rw [← HTv.out]
      by_cases h0 : f < 0
      · exact Or.inr (Or.inl ⟨by unfold tst; rw [hasB_not.2 (by omega)]; rfl, by simp; omega⟩)
      · obtain ⟨F, rfl⟩ := Int.eq_ofNat_of_zero_le (by omega : 0 ≤ f)
        by_cases hF : F < n
        · refine Or.inl ⟨by simp, by simp; omega, by omega, by omega, ?_⟩
          rw [tst_nat]
          exact bits_at J10.out.2.1 F (by rw [HL.out]; exact hF)
        · exact Or.inr (Or.inr ⟨by unfold tst; rw [HL.out, hasB_not.2 (by omega)]; rfl, by simp, by simp; omega⟩)
    clear hd10 C1 C2 C3 C4 C5 C6 J9 HTv HZ hzz hyy hrr h1 h2 h3 HCs
    rcases hcf with ⟨f0, f1, f2, f3, qf⟩ | ⟨rfl, f0⟩ | ⟨rfl, f0, f1⟩
    all_goals (go_wp2_with fail; go_meet; exact ⟨rfl, J10.out⟩)
  case rest =>
  obtain ⟨rfl, hj10⟩ := hcut
  have J10 := Lib.hid hj10
  have ck := key_any _ _ _ _ wc J10.out.1
  obtain ⟨k0, k1, k2, k3, hkv⟩ : ∃ k0 k1 k2 k3, keyV ws7 = .agg #[.int .u64 (u k0), .int .u64 (u k1), .int .u64 (u k2), .int .u64 (u k3)] := ⟨_, _, _, _, rfl⟩
  have hk4 : wrow [ws7.getD 0 0#64, ws7.getD 1 0#64, ws7.getD 2 0#64, ws7.getD 3 0#64] = [.int .u64 (u k0), .int .u64 (u k1), .int .u64 (u k2), .int .u64 (u k3)] := by
    unfold keyV at hkv
    simp only [Value.agg.injEq, Array.mk.injEq] at hkv
    exact hkv
  rw [hkv] at ck
  have HK4 := Lib.hid hk4
  have CK := Lib.hid ck
  clear ck hkv hk4 HZ hzz h1 h2 h3 J7 I7 hj10
  go_wp2_with fail
  refine CK.out.mono ?_; rintro e w11 ⟨rfl, hb11⟩
  have J11 := Lib.hid (J10.out.below hb11)
  clear hb11
  go_wp2_with fail
  have b12 : Below w11.heap.size w11 (w11.alloc (.cells #[.int .u64 (u k0), .int .u64 (u k1), .int .u64 (u k2), .int .u64 (u k3)] 46)) := up_alloc (Below.refl _ _) _
  have J12 := Lib.hid (J11.out.below b12)
  have KB : Hid (Blk (w11.alloc (.cells #[.int .u64 (u k0), .int .u64 (u k1), .int .u64 (u k2), .int .u64 (u k3)] 46)) w11.heap.size (wrow [ws7.getD 0 0#64, ws7.getD 1 0#64, ws7.getD 2 0#64, ws7.getD 3 0#64]) 46) := by
    show Blk _ _ _ _
    rw [HK4.out]; exact heap_alloc_new w11 _
  clear b12 J11
  generalize w11.alloc (.cells #[.int .u64 (u k0), .int .u64 (u k1), .int .u64 (u k2), .int .u64 (u k3)] 46) = w12 at J12 KB ⊢
  have HWc : Hid (∀ i, i < L → w12.cell? ⟨w5.heap.size, i, none⟩ = some (.int .u64 (u (ws7.getD i 0#64)))) := fun i hi => by rw [J12.out.2.2.2.1.cell, wrow_get (by rw [HLL.out]; exact hi)]
  have HXc : Hid (∀ i, i < L → w12.cell? ⟨w6.heap.size, i, none⟩ = some (.int .u64 (u (ws7.getD i 0#64)))) := fun i hi => by rw [J12.out.2.2.2.2.1.cell, wrow_get (by rw [HLL.out]; exact hi)]
  have HKc : Hid (∀ i, i < 4 → w12.cell? ⟨w11.heap.size, i, none⟩ = some (.int .u64 (u (ws7.getD i 0#64)))) := fun i hi => by
    rw [KB.out.cell]
    rcases (by omega : i = 0 ∨ i = 1 ∨ i = 2 ∨ i = 3) with rfl | rfl | rfl | rfl <;> rfl
  have BB := Lib.hid J12.out.2.2.2.2.2
  clear J12 KB J10 HK4 CK
  go_loop [19] (fun i => ∃ k : Nat, i = .int .i64 k ∧ k ≤ L + 4) (fun i => L + 4 - (intOf i).toNat)
  case atStart => exact ⟨0, rfl, by omega⟩
  case round =>
    obtain ⟨k, rfl, hk⟩ := hrel
    have ka : (0 : Int) ≤ (k : Int) := by omega
    by_cases hkL : k < L
    · have hdL : decide ((k : Int) < (L : Int)) = true := by simp; omega
      have kb : (k : Int) < (L : Int) := by omega
      have q1 := HWc.out k hkL
      have q2 := HXc.out k hkL
      by_cases hk4 : k < 4
      · have hd4 : decide ((k : Int) < 4) = true := by simp; omega
        have kc : (k : Int) < 4 := by omega
        have q3 := HKc.out k hk4
        obtain ⟨y, hy⟩ : ∃ y, ws7.getD k 0#64 = y := ⟨_, rfl⟩
        rw [hy] at q1 q2 q3
        have hyy : (u y != u y) = false := by simp
        clear hy
        go_wp2
        go_round
        case rel => exact ⟨k + 1, by go_num, by omega⟩
        case measure => simp [intOf]; omega
      · have hd4 : decide ((k : Int) < 4) = false := by simp; omega
        obtain ⟨y, hy⟩ : ∃ y, ws7.getD k 0#64 = y := ⟨_, rfl⟩
        rw [hy] at q1 q2
        have hyy : (u y != u y) = false := by simp
        clear hy
        go_wp2
        go_round
        case rel => exact ⟨k + 1, by go_num, by omega⟩
        case measure => simp [intOf]; omega
    · have hdL : decide ((k : Int) < (L : Int)) = false := by simp; omega
      by_cases hk4 : k < 4
      · have hd4 : decide ((k : Int) < 4) = true := by simp; omega
        have kc : (k : Int) < 4 := by omega
        have q3 := HKc.out k hk4
        rw [List.getD_eq_getElem?_getD, List.getElem?_eq_none (by rw [HLL.out]; omega), show u (Option.getD none 0#64) = 0 from rfl] at q3
        go_wp2
        go_round
        case rel => exact ⟨k + 1, by go_num, by omega⟩
        case measure => simp [intOf]; omega
      · have hd4 : decide ((k : Int) < 4) = false := by simp; omega
        go_wp2
        go_ret
        exact ⟨rfl, BB.out⟩
end Go.Proofs.YthleflfljomeiaaDoor
