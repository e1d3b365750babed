/-
  The walk of the statement on rows of calls.
-/
import Derived.Test.YtjjilnklcjgndaaCount
import Derived.Deep.DeepCutAuto
namespace Go.Proofs.Ytjjilnklcjgndaa
open Go.RowKit

set_option maxRecDepth 100000 in
set_option maxHeartbeats 2000000 in
theorem calls_great (n m : Int) (A : Option Addr) (N c : Nat) (ask : Int) (w : World) (h : 100 < n ∨ 20 < m ∨ 200 < N) :
    Calls Try.prog 3 #[.int .i64 n, .int .i64 m, .slice A N c, .int .i64 ask] w fun e w' => e = .returned (.bool true) ∧ Below w.heap.size w w' := by
  have hd : decide (100 < n ∨ 20 < m ∨ 200 < N) = true := by simpa using h
  have HG : Hid (∀ W, Calls Try.prog 7 #[.int .i64 n, .int .i64 m, .slice A N c] W fun e w' => e = .returned (.bool true) ∧ W = w') := fun W => by
    have := great_any n m A N c W; rwa [hd] at this
  clear hd h
  go_enter Try.func3, Try.ntmps3
  go_wp2_with fail
  refine (alive_any _).mono ?_
  rintro e w1 ⟨rfl, B1⟩
  have HB := Lib.hid B1
  clear B1
  go_wp2_with (go_at_call 7; refine (HG.out _).mono ?_; rintro e w' ⟨rfl, rfl⟩)
  go_ret
  exact ⟨rfl, HB.out⟩
set_option maxRecDepth 100000 in
set_option maxHeartbeats 2000000 in
theorem calls_no (n m : Int) (A : Option Addr) (N c : Nat) (ask : Int) (w : World) (h : ¬ (100 < n ∨ 20 < m ∨ 200 < N)) (h2 : n < 0 ∨ m < 1) :
    Calls Try.prog 3 #[.int .i64 n, .int .i64 m, .slice A N c, .int .i64 ask] w fun e w' => e = .returned (.bool true) ∧ Below w.heap.size w w' := by
  have hd : decide (100 < n ∨ 20 < m ∨ 200 < N) = false := by simpa using h
  have HG : Hid (∀ W, Calls Try.prog 7 #[.int .i64 n, .int .i64 m, .slice A N c] W fun e w' => e = .returned (.bool false) ∧ W = w') := fun W => by
    have := great_any n m A N c W; rwa [hd] at this
  have HNew := Lib.hid (fun W => new_no n m W (by omega))
  have HRNew := Lib.hid (fun W => rnew_no n m W (by omega))
  clear hd h h2
  go_enter Try.func3, Try.ntmps3
  go_wp2_with fail
  refine (alive_any _).mono ?_
  rintro e w1 ⟨rfl, B1⟩
  have HB := Lib.hid B1
  clear B1
  go_wp2_with (first | (go_at_call 7; refine (HG.out _).mono ?_; rintro e w' ⟨rfl, rfl⟩) | (go_at_call 8; refine (HNew.out _).mono ?_; rintro e w' ⟨rfl, rfl⟩) | (go_at_call 9; refine (HRNew.out _).mono ?_; rintro e w' ⟨rfl, rfl⟩))
  go_ret
  exact ⟨rfl, HB.out⟩
/-- What the reference tells of an item: its list and place, and the one behind it; how the law comes to it. -/
def Ways (w : World) (g : Nat) (v k NX : Int) (B : Bool) : Prop :=
  (v = -1 ∧ B = false ∧ NX = -1) ∨
  (∃ (I K N c : Nat) (b : Nat), v = (I : Int) ∧ k = (K : Int) ∧ w.cell? ⟨g, I, none⟩ = some (.slice (some ⟨b, 0, none⟩) N c) ∧ K + 1 = N ∧ B = false ∧ NX = -1) ∨
  (∃ (I K N c : Nat) (b : Nat) (y : Nat), v = (I : Int) ∧ k = (K : Int) ∧ w.cell? ⟨g, I, none⟩ = some (.slice (some ⟨b, 0, none⟩) N c) ∧ K + 1 < N ∧ w.cell? ⟨b, K + 1, none⟩ = some (.int .i64 (y : Int)) ∧ B = true ∧ NX = (y : Int))
theorem ways_some {w : World} {p : Pl} {g : Nat} {L : Nat → List Nat} (h : Both w p g L) {x v k : Int} (ha : AtR L x v k) : ∃ NX B, Ways w g v k NX B ∧ InR L x v ∧ NextR L x NX ∧ (∀ I : Nat, v = (I : Int) → I < p.m) ∧ -1 ≤ v ∧ -1 ≤ k ∧ k ≤ 4096 := by
  rcases ha with ⟨X, i, A, C, rfl, hl, rfl, rfl⟩ | ⟨hno, rfl, rfl⟩
  · have hx : X ∈ L i := by rw [hl]; simp
    have hg := h.ring.good
    have hi := hg.list_lt hx
    have hlen : (L i).length ≤ 4096 := by have := hg.len i; have := h.ring.ok.n1; omega
    have hlen2 : (L i).length = A.length + C.length + 1 := by rw [hl]; simp; omega
    obtain ⟨s, hs, hsl⟩ := h.ref.at_ hi
    obtain ⟨A', c, rfl, hc, _, _, hA⟩ := hsl
    obtain ⟨b, rfl, _, _, hcell⟩ := hA (by omega)
    have hrest : InR L (X : Int) (i : Int) ∧ (∀ I : Nat, (i : Int) = (I : Int) → I < p.m) ∧ -1 ≤ (i : Int) ∧ -1 ≤ (A.length : Int) ∧ (A.length : Int) ≤ 4096 :=
      ⟨.inl ⟨X, i, rfl, hx, rfl⟩, fun I hI => by obtain rfl : i = I := by omega
                                                 exact hi, by omega, by omega, by omega⟩
    cases C with
    | nil =>
      exact ⟨-1, false, .inr (.inl ⟨i, A.length, _, c, b, rfl, rfl, hs, by rw [hlen2]; rfl, rfl, rfl⟩), hrest.1, .inl ⟨X, i, A, [], rfl, hl, rfl⟩, hrest.2⟩
    | cons y C =>
      have hk : A.length + 1 < (L i).length := by rw [hlen2]; simp
      have hy := hcell (A.length + 1) hk
      have e : (L i).getD (A.length + 1) 0 = y := by rw [hl, List.getD_eq_getElem?_getD, List.getElem?_append_right (by omega)]; simp
      rw [e] at hy
      exact ⟨(y : Int), true, .inr (.inr ⟨i, A.length, _, c, b, y, rfl, rfl, hs, hk, hy, rfl, rfl⟩), hrest.1, .inl ⟨X, i, A, y :: C, rfl, hl, rfl⟩, hrest.2⟩
  · exact ⟨-1, false, .inl ⟨rfl, rfl, rfl⟩, .inr ⟨hno, rfl⟩, .inr ⟨hno, rfl⟩, fun I h => by omega, by omega, by omega, by omega⟩
set_option maxRecDepth 100000 in
set_option maxHeartbeats 8000000 in
theorem calls_main (n m : Nat) (A : Option Addr) (l : List (Int × Int × Int)) (c : Nat) (ask : Int) (w : World) (hcs : CA w.heap.size w A l) (hn : n ≤ 100) (hm1 : 1 ≤ m) (hm : m ≤ 20) (hl : l.length ≤ 200) :
    Calls Try.prog 3 #[.int .i64 (n : Int), .int .i64 (m : Int), .slice A l.length c, .int .i64 ask] w fun e w' => e = .returned (.bool true) ∧ Below w.heap.size w w' := by
  obtain ⟨N, hN⟩ : ∃ N, l.length = N := ⟨_, rfl⟩
  have HG : Hid (∀ W, Calls Try.prog 7 #[.int .i64 (n : Int), .int .i64 (m : Int), .slice A N c] W fun e w' => e = .returned (.bool false) ∧ W = w') := fun W => by
    have := great_any n m A N c W
    rwa [show decide (100 < (n : Int) ∨ 20 < (m : Int) ∨ 200 < N) = false by rw [decide_eq_false_iff_not]; omega] at this
  have HC := Lib.hid hcs
  have HNN := Lib.hid hN
  rw [hN] at hl ⊢
  clear hcs hN
  go_enter Try.func3, Try.ntmps3
  go_wp2_with fail
  refine (alive_any _).mono ?_
  rintro e w1 ⟨rfl, b1⟩
  have B1 := Lib.hid b1
  clear b1
  go_wp2_with fail
  refine (HG.out _).mono ?_; rintro e w' ⟨rfl, rfl⟩
  go_wp2_with fail
  refine (new_yes n m (by omega) (by omega) (by omega) w1).mono ?_
  rintro e w2 ⟨p, rfl, hpn, hpm, hlo, r2, b2⟩
  have HPN := Lib.hid hpn
  have HPM := Lib.hid hpm
  have HLO : Hid (w.heap.size ≤ p.lo) := by show _ ≤ _; rw [hlo]; exact B1.out.size
  have R2 := Lib.hid r2
  have B2 := Lib.hid (up_trans B1.out b2)
  clear hpn hpm hlo r2 b2 B1
  go_wp2_with fail
  refine (rnew_yes n m (by omega) (by omega) (by omega) w2).mono ?_
  rintro e w3 ⟨rfl, r3, b3⟩
  have T3 : Hid (Both w3 p w2.heap.size (fun _ => [])) := both_new HPN.out HPM.out R2.out r3 b3
  have B3 := Lib.hid (up_trans B2.out b3)
  obtain ⟨g, hg⟩ : ∃ g, w2.heap.size = g := ⟨_, rfl⟩
  rw [hg] at T3 ⊢
  clear r3 b3 R2 B2 hg
  go_wp2_with fail
  go_loopw [13] (fun i wr => ∃ (k : Nat) (L : Nat → List Nat), k ≤ N ∧ i = .int .i64 k ∧ Both wr p g L ∧ Below w.heap.size w wr) (fun i _ => N - (intOf i).toNat)
  case atStart => exact ⟨0, _, by omega, rfl, T3.out, B3.out⟩
  case round =>
    obtain ⟨k, L, hk, rfl, hb, hbel⟩ := hrel
    have HB := Lib.hid hb
    have HBe := Lib.hid hbel
    clear hb hbel T3 B3
    by_cases hlt : k < N
    · obtain ⟨cb, co, rfl, hcb, hcl⟩ := (HC.out.below HBe.out) (by rw [HNN.out]; omega)
      obtain ⟨c0, c1, c2⟩ := hcl k (by rw [HNN.out]; exact hlt)
      obtain ⟨z, hz⟩ : ∃ z, l.getD k (0, 0, 0) = z := ⟨_, rfl⟩
      rw [hz] at c0 c1 c2
      obtain ⟨z0, z1, z2⟩ := z
      have HT := Lib.hid (told_any z0 z1 z2 HB.out)
      have i1 : (0 : Int) ≤ (k : Int) := by omega
      have i2 : (k : Int) < (N : Int) := by omega
      clear hz hcl
      go_wp2_with fail
      refine HT.out.mono ?_
      intro e w4 ht
      have he := ht.1
      subst he
      obtain ⟨_, ⟨L', hb'⟩, hc', _⟩ := ht
      have HB' := Lib.hid hb'
      have HBe' := Lib.hid (hc'.on HBe.out HLO.out (Nat.le_refl _))
      clear hb' hc' HT c0 c1 c2
      go_wp2
      go_roundw
      case rel => exact ⟨k + 1, L', by omega, by go_num, HB'.out, HBe'.out⟩
      case measure => simp [intOf]; omega
    · obtain rfl : k = N := by omega
      have HIn := Lib.hid (rin_r (x := ask) HB.out.ref HB.out.ring.good HB.out.ring.ok.m1 HB.out.ring.ok.n1)
      have c1 := HB.out.ref.c1
      rw [HPM.out] at c1
      clear HG HC HNN
      go_wp2_with fail
      refine HIn.out.mono ?_
      rintro e w' ⟨⟨v, kk, rfl, hat⟩, rfl⟩
      obtain ⟨NX, B, hways, hinr, hnextr, hvm, hv1, hk1, hk2⟩ := ways_some HB.out hat
      have HW := Lib.hid hways
      have HInR := Lib.hid hinr
      have HNR := Lib.hid hnextr
      have HVM := Lib.hid hvm
      clear hways hinr hnextr hat HIn hvm
      go_upto_region 18 with fail
      go_cut [87] (fun s wx => s = .bool B ∧ wr = wx)
      case first =>
        rcases HW.out with ⟨rfl, rfl, rfl⟩ | ⟨I, K, N2, c2, b, rfl, rfl, hq, hKN, rfl, rfl⟩ | ⟨I, K, N2, c2, b, y, rfl, rfl, hq, hKN, hy, rfl, rfl⟩
        · go_wp2_with fail
          go_meet
          exact ⟨rfl, rfl⟩
        · have hIm : I < m := by have := HVM.out I rfl; rw [HPM.out] at this; exact this
          have j1 : (0 : Int) ≤ (I : Int) := by omega
          have j2 : (I : Int) < (m : Int) := by omega
          have d1 : decide ((0 : Int) ≤ (I : Int)) = true := by simp
          have d2 : decide ((K : Int) + 1 < (N2 : Int)) = false := by simp; omega
          have hwr := i64_in ((K : Int) + 1) (by omega) (by omega)
          clear HVM hKN
          go_wp2_with fail
          go_meet
          exact ⟨rfl, rfl⟩
        · have hIm : I < m := by have := HVM.out I rfl; rw [HPM.out] at this; exact this
          have j1 : (0 : Int) ≤ (I : Int) := by omega
          have j2 : (I : Int) < (m : Int) := by omega
          have d1 : decide ((0 : Int) ≤ (I : Int)) = true := by simp
          have d2 : decide ((K : Int) + 1 < (N2 : Int)) = true := by simp; omega
          have hwr := i64_in ((K : Int) + 1) (by omega) (by omega)
          clear HVM hKN hy
          go_wp2_with fail
          go_meet
          exact ⟨rfl, rfl⟩
      case rest =>
      obtain ⟨rfl, rfl⟩ := hcut
      go_upto_if 87 with fail
      go_cut [16] (fun s wx => s = .int .i64 NX ∧ wr = wx)
      case first =>
        rcases HW.out with ⟨rfl, rfl, rfl⟩ | ⟨I, K, N2, c2, b, rfl, rfl, hq, hKN, rfl, rfl⟩ | ⟨I, K, N2, c2, b, y, rfl, rfl, hq, hKN, hy, rfl, rfl⟩
        · go_wp2_with fail
          go_meet
          exact ⟨rfl, rfl⟩
        · clear HVM hKN hq
          go_wp2_with fail
          go_meet
          exact ⟨rfl, rfl⟩
        · have hIm : I < m := by have := HVM.out I rfl; rw [HPM.out] at this; exact this
          have j1 : (0 : Int) ≤ (I : Int) := by omega
          have j2 : (I : Int) < (m : Int) := by omega
          have j3 : (0 : Int) ≤ (K : Int) + 1 := by omega
          have j4 : (K : Int) + 1 < (N2 : Int) := by omega
          have j5 : ((K : Int) + 1).toNat = K + 1 := by omega
          have hwr := i64_in ((K : Int) + 1) (by omega) (by omega)
          clear HVM
          go_wp2_with fail
          go_meet
          exact ⟨rfl, rfl⟩
      case rest =>
      obtain ⟨rfl, rfl⟩ := hcut
      have HAll := Lib.hid (rall_r (i := ask) HB.out.ref HB.out.ring.good)
      clear HW HVM c1
      go_wp2_with fail
      refine HAll.out.mono ?_
      rintro e w' ⟨⟨s, rfl, hs⟩, rfl⟩
      have HIn := Lib.hid (in_r HB.out.ring HInR.out)
      have HNext := Lib.hid (next_r HB.out.ring HNR.out)
      have HFirst := Lib.hid (first_r (i := ask) HB.out.ring)
      have HLen := Lib.hid (len_r (i := ask) HB.out.ring)
      have HAll2 := Lib.hid (all_r (i := ask) HB.out.ring)
      have hle : (of L ask).length ≤ 4096 := by have := of_len HB.out.ring.good ask; have := HB.out.ring.ok.n1; omega
      obtain ⟨A2, c2, rfl, _, _, _, hia⟩ := hs.parts
      have HIA := Lib.hid hia
      clear hs hia HAll HInR HNR
      generalize of L ask = xs at HFirst HLen HAll2 hle HIA
      obtain ⟨N3, hN3⟩ : ∃ N3, xs.length = N3 := ⟨_, rfl⟩
      have HN3 := Lib.hid hN3
      rw [hN3] at HLen hle ⊢
      clear hN3
      go_upto_if 104 with fail
      go_cut [18] (fun s wx => s = .int .i64 (hd xs) ∧ wr = wx)
      case first =>
        cases xs with
        | nil =>
          obtain rfl : N3 = 0 := HN3.out.symm
          go_wp2_with fail
          go_meet
          exact ⟨rfl, rfl⟩
        | cons x r =>
          have h0 : 0 < N3 := by rw [← HN3.out]; simp
          obtain ⟨b, o, rfl, _, hc⟩ := HIA.out (by simp)
          have q0 : wr.cell? ⟨b, o, none⟩ = some (.int .i64 (x : Int)) := hc 0 (by simp)
          have j1 : (0 : Int) < (N3 : Int) := by omega
          have d1 : decide ((0 : Int) < (N3 : Int)) = true := by simpa using h0
          clear hc
          go_wp2_with fail
          go_meet
          exact ⟨rfl, rfl⟩
      case rest =>
      obtain ⟨rfl, rfl⟩ := hcut
      have HS : Hid (∀ (g2 cap : Nat) (W : World), IA W.heap.size W (some ⟨g2, 0, none⟩) xs → Below wr.heap.size wr W → Calls Try.prog 17 #[.slice (some ⟨g2, 0, none⟩) N3 cap, .slice A2 N3 c2] W fun e w' => e = .returned (.bool true) ∧ Drawn W w') := fun g2 cap W h1 h2 => by
        have := same_any (some ⟨g2, 0, none⟩) A2 xs xs cap c2 _ _ W h1 (HIA.out.below h2) (by rw [HN3.out]; exact hle)
        rw [HN3.out, show decide (xs = xs) = true by simp] at this
        exact this
      obtain ⟨h1, hh1⟩ : ∃ h1, hd xs = h1 := ⟨_, rfl⟩
      rw [hh1] at HFirst ⊢
      have HA2 : Hid (Calls Try.prog 18 #[.pointer (some ⟨p.q, 0, none⟩), .int .i64 ask] wr fun e w' => ∃ g2 cap, e = .returned (.slice (some ⟨g2, 0, none⟩) N3 cap) ∧ IA w'.heap.size w' (some ⟨g2, 0, none⟩) xs ∧ Below wr.heap.size wr w') :=
        HAll2.out.mono fun e w' ⟨g2, cap, he, _, h3, h4⟩ => ⟨g2, cap, by rw [he, HN3.out], h3, h4⟩
      clear hh1 HAll2 HN3 HIA
      go_wp2_with fail
      refine HIn.out.mono ?_; rintro e w' ⟨rfl, rfl⟩
      go_wp2_with fail
      refine HNext.out.mono ?_; rintro e w' ⟨rfl, rfl⟩
      go_wp2_with fail
      refine HFirst.out.mono ?_; rintro e w' ⟨rfl, rfl⟩
      go_wp2_with fail
      refine HLen.out.mono ?_; rintro e w' ⟨rfl, rfl⟩
      go_wp2_with fail
      refine HA2.out.mono ?_; rintro e w6 ⟨g2, cap, rfl, ia6, b6⟩
      have B6 := Lib.hid (up_trans HBe.out b6)
      have HS6 := Lib.hid (HS.out g2 cap w6 ia6 b6)
      clear ia6 b6 HS HA2
      go_wp2_with (go_at_call 17; refine HS6.out.mono ?_; rintro e w7 ⟨rfl, d7⟩)
      go_ret
      exact ⟨rfl, up_trans B6.out d7.below⟩
theorem calls_any (n m : Int) (A : Option Addr) (l : List (Int × Int × Int)) (c : Nat) (ask : Int) (w : World) (hcs : CA w.heap.size w A l) :
    Calls Try.prog 3 #[.int .i64 n, .int .i64 m, .slice A l.length c, .int .i64 ask] w fun e w' => e = .returned (.bool true) ∧ Below w.heap.size w w' := by
  by_cases h : 100 < n ∨ 20 < m ∨ 200 < l.length
  · exact calls_great n m A _ c ask w h
  · by_cases h2 : n < 0 ∨ m < 1
    · exact calls_no n m A _ c ask w h h2
    · obtain ⟨n, rfl⟩ := Int.eq_ofNat_of_zero_le (show 0 ≤ n by omega)
      obtain ⟨m, rfl⟩ := Int.eq_ofNat_of_zero_le (show 0 ≤ m by omega)
      exact calls_main n m A l c ask w hcs (by omega) (by omega) (by omega) (by omega)
end Go.Proofs.Ytjjilnklcjgndaa
