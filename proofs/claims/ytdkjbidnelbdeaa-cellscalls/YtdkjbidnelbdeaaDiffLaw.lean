/-
  The walk of the statement on what is unlike.
-/
import Derived.Test.YtdkjbidnelbdeaaRefDiff
namespace Go.Proofs.Ytdkjbidnelbdeaa
open Go.RowKit

theorem write_all (q g N : Nat) (ps : List (BitVec 8)) (A : Option Addr) (c : Nat) (w : World) (hm : Mem w q g (List.replicate ps.length 0#8)) (ha : BA N w A ps) :
    Calls Try.prog 16 #[.pointer (some ⟨q, 0, none⟩), .int .i64 0, .slice A ps.length c] w (Wrote q g ps 0 w) := by
  have := write_yes q g _ ps 0 A c w hm (by simp) (fun hp => by obtain ⟨b, o, e, _, h⟩ := ha hp; exact ⟨b, o, e, h⟩)
  rw [splice_all _ _ (by simp)] at this
  exact this
theorem differ_self (q g q2 g2 : Nat) (ps : List (BitVec 8)) (w : World) (h1 : Mem w q g ps) (h2 : Mem w q2 g2 ps) :
    Calls Try.prog 17 #[.pointer (some ⟨q, 0, none⟩), .pointer (some ⟨q2, 0, none⟩)] w fun e w' => ∃ A cap, e = .returned (.slice A 0 cap) ∧ Below w.heap.size w w' := by
  have := differ_any q g q2 g2 ps ps w h1 h2
  rw [Nat.max_self, diff_same] at this
  refine this.mono ?_
  rintro e w' ⟨A, cap, rfl, _, hb⟩
  exact ⟨A, cap, rfl, hb⟩
theorem differ_len (q g q2 g2 : Nat) (ps bs : List (BitVec 8)) (l : List (Nat × Nat)) (hl : diffL (likeB ps bs) (max ps.length bs.length) = l) (w : World) (h1 : Mem w q g ps) (h2 : Mem w q2 g2 bs) :
    Calls Try.prog 17 #[.pointer (some ⟨q, 0, none⟩), .pointer (some ⟨q2, 0, none⟩)] w fun e w' => ∃ A cap, e = .returned (.slice A l.length cap) ∧ SP w'.heap.size w' A l ∧ Below w.heap.size w w' := by
  subst hl; exact differ_any q g q2 g2 ps bs w h1 h2
theorem read_all (q g n : Nat) (ps : List (BitVec 8)) (w : World) (h1 : Mem w q g ps) (hn : ps.length = n) :
    Calls Try.prog 10 #[.pointer (some ⟨q, 0, none⟩), .int .i64 0, .int .i64 (n : Int)] w fun e w' => e = .returned (.tuple #[.slice (some ⟨w.heap.size, 0, none⟩) n n, .int .i64 0]) ∧ Row w' w.heap.size ps ∧ Below w.heap.size w w' := by
  subst hn
  have := read_yes q g ps 0 ps.length w h1 (by omega)
  rw [sub_all] at this
  exact this
theorem fill_all (q g n : Nat) (ps : List (BitVec 8)) (x : BitVec 8) (w : World) (h1 : Mem w q g ps) (hn : ps.length = n) :
    Calls Try.prog 20 #[.pointer (some ⟨q, 0, none⟩), .int .i64 0, .int .i64 (n : Int), .int .u8 (y x)] w fun e w' => e = .returned (.int .i64 0) ∧ w.grownBy w' (some g) :=
  (fill_yes q g ps 0 n x w h1 (by omega)).mono fun _ _ ⟨he, _, hg⟩ => ⟨he, hg⟩
theorem same_n (A B : Option Addr) (bs : List (BitVec 8)) (n c d N N2 : Nat) (w : World) (h1 : BA N w A bs) (h2 : BA N2 w B bs) (hn : bs.length = n) (hl : n ≤ 1048576) :
    Calls Try.prog 13 #[.slice A n c, .slice B n d] w fun e w' => e = .returned (.bool true) ∧ Drawn w w' := by
  subst hn; exact same_yes A B bs c d N N2 w h1 h2 hl

theorem diff_big (A B : Option Addr) (n m c d : Nat) (w : World) (h : 2000 < n ∨ 2000 < m) :
    Calls Try.prog 4 #[.slice A n c, .slice B m d] w fun e w' => e = .returned (.bool true) ∧ Below w.heap.size w w' := by
  by_cases h0 : 2000 < n
  · have hd : decide (2000 < (n : Int)) = true := by simp; omega
    clear h h0
    go_enter Try.func4, Try.ntmps4
    go_wp2_with fail
    refine (alive_any _).mono ?_
    rintro e w1 ⟨rfl, B1⟩
    go_wp2
    go_ret
    exact ⟨rfl, B1⟩
  · have hd : decide (2000 < (n : Int)) = false := by simp; omega
    have hd : decide (2000 < (m : Int)) = true := by simp; omega
    clear h h0
    go_enter Try.func4, Try.ntmps4
    go_wp2_with fail
    refine (alive_any _).mono ?_
    rintro e w1 ⟨rfl, B1⟩
    go_wp2
    go_ret
    exact ⟨rfl, B1⟩

set_option maxRecDepth 100000 in
set_option maxHeartbeats 8000000 in
theorem diff_small (A B : Option Addr) (ps bs : List (BitVec 8)) (c d : Nat) (w : World) (hA : BA w.heap.size w A ps) (hB : BA w.heap.size w B bs) (l1 : ps.length ≤ 2000) (l2 : bs.length ≤ 2000) :
    Calls Try.prog 4 #[.slice A ps.length c, .slice B bs.length d] w fun e w' => e = .returned (.bool true) ∧ Below w.heap.size w w' := by
  have HA := Lib.hid hA
  have HB := Lib.hid hB
  obtain ⟨l, hl⟩ : ∃ l, diffL (likeB ps bs) (max ps.length bs.length) = l := ⟨_, rfl⟩
  have hl2 : diffL (likeB bs ps) (max bs.length ps.length) = l := by rw [Nat.max_comm, diff_comm]; exact hl
  have HL := Lib.hid hl
  have HL2 := Lib.hid hl2
  have hll : l.length ≤ 2001 := by rw [← hl]; have := diffL_length (likeB ps bs) (max ps.length bs.length); omega
  obtain ⟨L1, e1⟩ : ∃ L, ps.length = L := ⟨_, rfl⟩
  obtain ⟨L2, e2⟩ : ∃ L, bs.length = L := ⟨_, rfl⟩
  have HE1 := Lib.hid e1
  have HE2 := Lib.hid e2
  have pW1 : ∀ (q g : Nat) (W : World), Mem W q g (List.replicate L1 0#8) → BA w.heap.size W A ps → Calls Try.prog 16 #[.pointer (some ⟨q, 0, none⟩), .int .i64 0, .slice A L1 c] W (Wrote q g ps 0 W) := by
    intro q g W hm ha; have := write_all q g _ ps A c W (by rw [e1]; exact hm) ha; rw [e1] at this; exact this
  have pW2 : ∀ (q g : Nat) (W : World), Mem W q g (List.replicate L2 0#8) → BA w.heap.size W B bs → Calls Try.prog 16 #[.pointer (some ⟨q, 0, none⟩), .int .i64 0, .slice B L2 d] W (Wrote q g bs 0 W) := by
    intro q g W hm ha; have := write_all q g _ bs B d W (by rw [e2]; exact hm) ha; rw [e2] at this; exact this
  have pR : ∀ (W : World), w.heap.size ≤ W.heap.size → BA w.heap.size W A ps → BA w.heap.size W B bs → Calls Try.prog 18 #[.slice A L1 c, .slice B L2 d] W fun e w' => ∃ A cap, e = .returned (.slice A l.length cap) ∧ SP w'.heap.size w' A l ∧ Below W.heap.size W w' := by
    intro W hs h1 h2; have := rdiffer_any A B ps bs c d w.heap.size W hs h1 h2 (by omega) (by omega); rw [hl, e1, e2] at this; exact this
  have PW1 := Lib.hid pW1
  have PW2 := Lib.hid pW2
  have PR := Lib.hid pR
  rw [e1] at l1 ⊢
  rw [e2] at l2 ⊢
  clear hA hB hl hl2 e1 e2 pW1 pW2 pR
  obtain ⟨n, hn⟩ : ∃ n, l.length = n := ⟨_, rfl⟩
  have HN := Lib.hid hn
  rw [hn] at hll PR
  clear hn
  go_enter Try.func4, Try.ntmps4
  go_wp2_with fail
  refine (alive_any _).mono ?_
  rintro e w1 ⟨rfl, B1⟩
  have s1 := B1.size
  go_wp2_with fail
  refine (new_any L1 (by omega) _).mono ?_
  rintro e w2 ⟨rfl, m2, b2⟩
  have B2 := up_trans B1 b2
  have s2 := m2.lt
  clear b2 B1
  go_wp2_with fail
  refine (new_any L2 (by omega) _).mono ?_
  rintro e w3 ⟨rfl, n3, b3⟩
  have m3 := m2.below b3
  have B3 := up_trans B2 b3
  clear b3 m2 B2
  go_wp2_with fail
  refine (PW1.out _ _ _ m3 (HA.out.below B3)).mono ?_
  rintro e w4 ⟨rfl, m4, g4⟩
  have n4 := n3.far g4 (by omega) (by omega)
  have B4 := below_grown B3 g4 B3.size s1
  clear g4 B3 m3 n3
  go_wp2_with fail
  refine (PW2.out _ _ _ n4 (HB.out.below B4)).mono ?_
  rintro e w5 ⟨rfl, n5, g5⟩
  have m5 := m4.far g5 (by omega) (by omega)
  have B5 := below_grown B4 g5 B4.size (by omega)
  clear g5 B4 m4 n4
  go_wp2_with fail
  refine (differ_len _ _ _ _ ps bs l HL.out _ m5 n5).mono ?_
  rintro e w6 ⟨A6, cap6, he, sp6, b6⟩
  rw [HN.out] at he
  subst he
  have m6 := m5.below b6
  have n6 := n5.below b6
  have B6 := up_trans B5 b6
  clear b6 B5 m5 n5
  go_wp2_with fail
  refine (PR.out _ B6.size (HA.out.below B6) (HB.out.below B6)).mono ?_
  rintro e w7 ⟨A7, cap7, rfl, sp7, b7⟩
  have m7 := m6.below b7
  have n7 := n6.below b7
  have q7 := (sp6.below b7).more b7.size
  have B7 := up_trans B6 b7
  clear b7 B6 m6 n6 sp6
  go_wp2_with fail
  refine (clone_any _ _ _ _ m7).mono ?_
  rintro e w8 ⟨p8, rfl, hp8, k8, b8⟩
  have m8 := m7.below b8
  have n8 := n7.below b8
  have q8 := (q7.below b8).more b8.size
  have r8 := (sp7.below b8).more b8.size
  have B8 := up_trans B7 b8
  clear b8 B7 m7 n7 q7 sp7
  go_wp2_with fail
  refine (differ_self _ _ _ _ _ _ m8 k8).mono ?_
  rintro e w9 ⟨A9, cap9, rfl, b9⟩
  have m9 := m8.below b9
  have n9 := n8.below b9
  have q9 := (q8.below b9).more b9.size
  have r9 := (r8.below b9).more b9.size
  have B9 := up_trans B8 b9
  clear b9 B8 m8 n8 q8 r8 k8
  go_wp2_with fail
  refine (differ_len _ _ _ _ bs ps l HL2.out _ n9 m9).mono ?_
  rintro e wA ⟨AA, capA, he, _, bA⟩
  rw [HN.out] at he
  subst he
  have mA := m9.below bA
  have qA := (q9.below bA).more bA.size
  have rA := (r9.below bA).more bA.size
  have BX := up_trans B9 bA
  clear bA B9 m9 n9 q9 r9
  have MA := Lib.hid mA
  have QA := Lib.hid qA
  have RA := Lib.hid rA
  clear mA qA rA
  go_wp2_with fail
  go_loopw [11] (fun i wr => ∃ j : Nat, j ≤ n ∧ i = .int .i64 j ∧ Drawn wA wr) (fun i _ => n - (intOf i).toNat)
  case atStart => exact ⟨0, by omega, rfl, Drawn.refl _⟩
  case round =>
    obtain ⟨j, hj, rfl, hdr⟩ := hrel
    have HD := Lib.hid hdr
    clear hdr
    by_cases hlt : j < n
    · obtain ⟨gq, rfl, _, cq⟩ := QA.out (by rw [HN.out]; omega)
      obtain ⟨gr, rfl, _, cr⟩ := RA.out (by rw [HN.out]; omega)
      obtain ⟨a1, a2⟩ := cq j (by rw [HN.out]; exact hlt)
      obtain ⟨a3, a4⟩ := cr j (by rw [HN.out]; exact hlt)
      have c1 := HD.out.cell a1
      have c2 := HD.out.cell a2
      have c3 := HD.out.cell a3
      have c4 := HD.out.cell a4
      obtain ⟨p1, hp1⟩ : ∃ p, (l.getD j (0, 0)).1 = p := ⟨_, rfl⟩
      obtain ⟨p2, hp2⟩ : ∃ p, (l.getD j (0, 0)).2 = p := ⟨_, rfl⟩
      rw [hp1] at c1 c3
      rw [hp2] at c2 c4
      clear hp1 hp2 a1 a2 a3 a4 cq cr QA RA
      have k0 : (0 : Int) ≤ (j : Int) := by omega
      have k1 : (j : Int) < (n : Int) := by omega
      have h1 : ((p1 : Int) != (p1 : Int)) = false := by simp
      have h2 : ((p2 : Int) != (p2 : Int)) = false := by simp
      go_wp2_with fail
      go_quiet (fail)
      go_wp2
      go_roundw
      case rel => exact ⟨j + 1, by omega, by go_num, HD.out.on _⟩
      case measure => simp [intOf]; omega
    · obtain rfl : j = n := by omega
      have mB := MA.out.below (HD.out.below _)
      have BB := BX.trans (HD.out.below _)
      clear QA RA MA BX HD
      go_wp2_with fail
      refine (clone_any _ _ _ _ mB).mono ?_
      rintro e wC ⟨pC, rfl, hpC, kC, bC⟩
      have mC := mB.below bC
      have BC := up_trans BB bC
      have sB := BB.size
      have sC := mB.lt
      clear BB bC
      go_wp2_with fail
      refine (fill_all _ _ L1 ps 1#8 _ mC HE1.out).mono ?_
      rintro e wD ⟨rfl, gD⟩
      have kD := kC.far gD (by omega) (by omega)
      have BD := below_grown BC gD BC.size s1
      clear BC gD mC kC mB
      go_wp2_with fail
      refine (read_all _ _ L1 ps _ kD HE1.out).mono ?_
      rintro e wE ⟨rfl, rE, bE⟩
      have BE := up_trans BD bE
      go_wp2_with fail
      refine (same_n _ A ps L1 _ c _ _ _ (BA.row rE) (HA.out.below BE) HE1.out (by omega)).mono ?_
      rintro e wF ⟨rfl, dF⟩
      have BF := BE.trans (dF.below _)
      go_wp2
      go_ret
      exact ⟨rfl, BF⟩
theorem diff_all (A B : Option Addr) (ps bs : List (BitVec 8)) (c d : Nat) (w : World) (hA : BA w.heap.size w A ps) (hB : BA w.heap.size w B bs) :
    Calls Try.prog 4 #[.slice A ps.length c, .slice B bs.length d] w fun e w' => e = .returned (.bool true) ∧ Below w.heap.size w w' := by
  by_cases h : 2000 < ps.length ∨ 2000 < bs.length
  · exact diff_big A B _ _ c d w h
  · exact diff_small A B ps bs c d w hA hB (by omega) (by omega)

end Go.Proofs.Ytdkjbidnelbdeaa
