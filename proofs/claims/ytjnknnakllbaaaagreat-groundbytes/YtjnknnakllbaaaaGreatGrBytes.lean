/-
  The walk of the statement on bytes.
-/
import Derived.Test.YtjnknnakllbaaaaGreatGrTwo
import Derived.Test.YtjnknnakllbaaaaGreatCeSame
namespace Go.Proofs.YtjnknnakllbaaaaGreat.Gr
set_option maxRecDepth 100000
open Go.RowKit
theorem sub_splice (zs bs : List (BitVec 8)) : Ce.sub (splice zs 0 bs) 0 bs.length = bs := by
  unfold Ce.sub splice; simp
theorem splice_length (zs bs : List (BitVec 8)) (h : bs.length ≤ zs.length) : (splice zs 0 bs).length = zs.length := length_splice _ _ _ (by omega)
set_option maxHeartbeats 16000000 in
theorem bytes_any (N : Int) (A1 A2 A3 : Option Addr) (l1 l2 : List Cl) (bs : List (BitVec 8)) (c1 c2 c3 : Nat) (w : World) (hcs1 : CA w.heap.size w A1 l1) (hcs2 : CA w.heap.size w A2 l2) (hbs : Ce.BA w.heap.size w A3 bs) :
    Calls Tryz.prog 5 #[.int .i64 N, .slice A1 l1.length c1, .slice A2 l2.length c2, .slice A3 bs.length c3] w fun e w' => e = .returned (.bool true) ∧ Below w.heap.size w w' := by
  obtain ⟨M1, hM1⟩ : ∃ M, l1.length = M := ⟨_, rfl⟩
  obtain ⟨M2, hM2⟩ : ∃ M, l2.length = M := ⟨_, rfl⟩
  obtain ⟨K, hK⟩ : ∃ K, bs.length = K := ⟨_, rfl⟩
  have HM1 := Lib.hid hM1
  have HM2 := Lib.hid hM2
  have HK := Lib.hid hK
  have HC1 := Lib.hid hcs1
  have HC2 := Lib.hid hcs2
  have HBs := Lib.hid hbs
  rw [hM1, hM2, hK]
  clear hcs1 hcs2 hbs hM1 hM2 hK
  have HGr := Lib.hid (fun W => great_any N A1 M1 c1 W)
  obtain ⟨G, hG⟩ : ∃ G, greatB N M1 = G := ⟨_, rfl⟩
  rw [hG] at HGr
  by_cases hbig : G = true ∨ 60 < M2 ∨ 25600 < K
  · have hcase : (G = true) ∨ (G = false ∧ decide ((60 : Int) < (M2 : Int)) = true) ∨ (G = false ∧ decide ((60 : Int) < (M2 : Int)) = false ∧ decide ((25600 : Int) < (K : Int)) = true) := by
      cases G with
      | true => exact .inl rfl
      | false =>
        right
        by_cases h2 : 60 < M2
        · left; exact ⟨rfl, by simp; omega⟩
        · right
          have h3 : 25600 < K := by
            rcases hbig with h | h | h
            · cases h
            · exact absurd h h2
            · exact h
          exact ⟨rfl, by simp; omega, by simp; omega⟩
    clear hbig hG
    rcases hcase with rfl | ⟨rfl, d1⟩ | ⟨rfl, d1, d2⟩
    all_goals
      go_enter Tryz.func5, Tryz.ntmps5
      go_wp2_with fail
      refine (alive_any _).mono ?_
      rintro e w2 ⟨rfl, b2⟩
      have HB2 := Lib.hid b2
      clear b2
      go_wp2_with fail
      refine (HGr.out _).mono ?_
      rintro e w3 ⟨rfl, rfl⟩
      go_wp2_with fail
      go_ret
      exact ⟨rfl, HB2.out⟩
  obtain rfl : G = false := by cases G <;> simp_all
  have hM60 : M2 ≤ 60 := by omega
  have hK2 : K ≤ 25600 := by omega
  have hg' : N ≤ 100 ∧ M1 ≤ 60 := by
    have h := hG
    unfold greatB at h
    rw [Bool.or_eq_false_iff, decide_eq_false_iff_not, decide_eq_false_iff_not] at h
    omega
  obtain ⟨hN, hM160⟩ := hg'
  have d1 : decide ((60 : Int) < (M2 : Int)) = false := by simp; omega
  have d2 : decide ((25600 : Int) < (K : Int)) = false := by simp; omega
  clear hbig hG
  by_cases h0 : N < 0
  · have HNo := Lib.hid (fun W => new_no N W (.inl h0))
    clear h0
    go_enter Tryz.func5, Tryz.ntmps5
    go_wp2_with fail
    refine (alive_any _).mono ?_
    rintro e w2 ⟨rfl, b2⟩
    have HB2 := Lib.hid b2
    clear b2
    go_wp2_with fail
    refine (HGr.out _).mono ?_
    rintro e w3 ⟨rfl, rfl⟩
    go_wp2_with fail
    refine (HNo.out _).mono ?_
    rintro e w3 ⟨rfl, rfl⟩
    go_wp2_with fail
    go_ret
    exact ⟨rfl, HB2.out⟩
  have h0' : 0 ≤ N := by omega
  have HNew := Lib.hid (fun W => new_yes N W h0' (by omega))
  have hw256 := i64_in (256 * N) (by omega) (by omega)
  go_enter Tryz.func5, Tryz.ntmps5
  go_wp2_with fail
  refine (alive_any _).mono ?_
  rintro e w2 ⟨rfl, b2⟩
  have HB2 := Lib.hid b2
  have hs2 := b2.size
  clear b2
  go_wp2_with fail
  refine (HGr.out _).mono ?_
  rintro e w3 ⟨rfl, rfl⟩
  go_wp2_with fail
  refine (HNew.out _).mono ?_
  rintro e w3 ⟨q, p0, rfl, g0, _, fr0, b3⟩
  have HE0 : Hid (Ev w w3 q p0 N (Sp.newL N) (fun _ => 0) 0 [Le.z8] (zeros N)) := ⟨g0, ⟨fun k hk => Nat.le_trans hs2 (fr0.1 k hk), Nat.le_trans hs2 fr0.2.1, Nat.le_trans hs2 fr0.2.2⟩, up_trans HB2.out b3⟩
  have HCe := Lib.hid (cells_any g0)
  clear g0 fr0 b3 hs2 HB2 HGr HNew h0
  go_wp2_with fail
  refine HCe.out.mono ?_
  rintro e w' ⟨rfl, rfl⟩
  by_cases hlong : 256 * N < (K : Int)
  · have d3 : decide (256 * N < (K : Int)) = true := by simpa using hlong
    clear HCe hlong
    go_wp2_with fail
    go_ret
    exact ⟨rfl, HE0.out.bel⟩
  have d3 : decide (256 * N < (K : Int)) = false := by simpa using hlong
  have hKN : (K : Int) ≤ 256 * N := by omega
  have hzl := zeros_len h0'
  have hKz : bs.length ≤ (zeros N).length := by rw [HK.out]; omega
  have HWr := Ce.write_yes p0.qc p0.gc (zeros N) bs 0 A3 c3 w3 HE0.out.gm.gx.mem (by omega) (fun hp => by
    obtain ⟨b, o, e, _, hc⟩ := HBs.out.below HE0.out.bel hp
    exact ⟨b, o, e, hc⟩)
  rw [HK.out] at HWr
  have HWr := Lib.hid HWr
  have HZ : Hid ((splice (zeros N) 0 bs).length = (zeros N).length) := splice_length _ _ hKz
  have HZ2 : Hid (((zeros N).length : Int) = 256 * N) := hzl
  unfold Ce.Wrote at HWr
  clear hzl hKz hlong
  go_wp2_with fail
  refine HCe.out.mono ?_
  rintro e w' ⟨rfl, rfl⟩
  go_wp2_with fail
  refine HWr.out.mono ?_
  rintro e w4 ⟨rfl, m4, g4⟩
  have HE4 : Hid (Ev w w4 q p0 N (Sp.newL N) (fun _ => 0) 0 [Le.z8] (splice (zeros N) 0 bs)) :=
    ⟨⟨HE0.out.gm.gx.bytes m4 g4, HE0.out.gm.inv, by rw [HZ.out]; exact HZ2.out⟩, HE0.out.fresh, HE0.out.bel.grown g4 HE0.out.bel.size (fun g hg => by have := HE0.out.fresh.2.2; cases hg; exact this)⟩
  have HR0 : Hid (Rn w w4 q p0.qc p0.gc N 0 (splice (zeros N) 0 bs)) := ⟨p0, _, _, _, _, HE4.out, by simp, by omega, rfl, rfl⟩
  clear m4 g4 HWr HCe HE0 HE4
  go_wp2_with fail
  go_loopw [11] (fun i wr => ∃ j : Nat, j ≤ M1 ∧ i = .int .i64 j ∧ Rn w wr q p0.qc p0.gc N j (splice (zeros N) 0 bs)) (fun i _ => M1 - (intOf i).toNat)
  case atStart => exact ⟨0, by omega, rfl, HR0.out⟩
  case round =>
    obtain ⟨j, hj, rfl, p, L, f, t, S, hE, hSl, ht, hp1, hp2⟩ := hrel
    have HE := Lib.hid hE
    clear hE HR0
    by_cases hlt : j < M1
    · have hjl : j < l1.length := by rw [HM1.out]; exact hlt
      obtain ⟨cb, co, rfl, _, c0, c1, c2, c3, c4, c5, c6⟩ := (HC1.out.below HE.out.bel) j hjl
      obtain ⟨x, hx⟩ : ∃ x, l1[j] = x := ⟨_, rfl⟩
      rw [hx] at c0 c1 c2 c3 c4 c5 c6
      have HDo := Lib.hid (do_any x HE.out.gm (by omega))
      have HS2 := Lib.hid (fun V' hb => Rn.step (V' := V') x HE.out hSl ht hp1 hp2 hb)
      unfold clV at HDo
      have j1 : (0 : Int) ≤ (j : Int) := by omega
      have j2 : (j : Int) < (M1 : Int) := by omega
      clear hx hjl hp1 hp2 ht
      go_wp2_with fail
      refine HDo.out.mono ?_
      rintro e w5 ⟨rfl, h5⟩
      have HR5 := Lib.hid (HS2.out _ h5)
      clear h5 HDo HS2 c0 c1 c2 c3 c4 c5 c6
      go_wp2_with fail
      go_roundw
      case rel => exact ⟨j + 1, by omega, by go_num, HR5.out⟩
      case measure => simp [intOf]; omega
    · obtain rfl : j = M1 := by omega
      have HQ : Hid (p.qc = p0.qc ∧ p.gc = p0.gc ∧ S.length ≤ 61 ∧ (0 ≤ t ∧ t ≤ 60)) := ⟨hp1, hp2, by omega, by omega⟩
      have HCl := Lib.hid (clone_any HE.out.gm)
      clear hp1 hp2 HC1 hlt hj HM1 hSl ht hM160
      go_wp2_with fail
      refine HCl.out.mono ?_
      rintro e w5 ⟨q2, p2, rfl, g5, hq5, fr5, b5⟩
      have HT5 := Lib.hid (Tw.made HE.out.gm hq5 fr5 g5)
      have HE5 := Lib.hid (HE.out.below b5)
      have HCe2 := Lib.hid (cells_any g5)
      have HFr := Lib.hid (free_any g5)
      clear g5 hq5 fr5 b5 HCl HE
      go_wp2_with fail
      refine HCe2.out.mono ?_
      rintro e w' ⟨rfl, rfl⟩
      go_wp2_with fail
      refine HFr.out.mono ?_
      rintro e w6 ⟨rfl, b6⟩
      have HT6 := Lib.hid (HT5.out.below b6)
      have HE6 := Lib.hid (HE5.out.below b6)
      have HSt := Lib.hid (stamp_any HT6.out.gm)
      clear b6 HFr HCe2 HT5 HE5
      go_wp2_with fail
      refine HSt.out.mono ?_
      rintro e w' ⟨rfl, rfl⟩
      clear HSt
      go_wp2_with fail
      go_loopw [15] (fun i wr => ∃ k : Nat, k ≤ M2 ∧ i = .int .i64 k ∧ ∃ p' L' f' t' S', Ev w wr q p' N L' f' t' S' (splice (zeros N) 0 bs) ∧ S'.length ≤ (60 + k) + 1 ∧ (0 ≤ t' ∧ t' ≤ ((60 + k : Nat) : Int)) ∧ p'.qc = p0.qc ∧ p'.gc = p0.gc ∧ Tw wr p' q2 p2 N L f t S (splice (zeros N) 0 bs)) (fun i _ => M2 - (intOf i).toNat)
      case atStart => exact ⟨0, by omega, rfl, p, L, f, t, S, HE6.out, HQ.out.2.2.1, HQ.out.2.2.2, HQ.out.1, HQ.out.2.1, HT6.out⟩
      case round =>
        obtain ⟨k, hk, rfl, p', L', f', t', S', hE, hSl, ht, hp1, hp2, hT⟩ := hrel
        have HEk := Lib.hid hE
        have HTk := Lib.hid hT
        clear hE hT
        by_cases hlt : k < M2
        · have hjl : k < l2.length := by rw [HM2.out]; exact hlt
          obtain ⟨cb, co, rfl, _, c0, c1, c2, c3, c4, c5, c6⟩ := (HC2.out.below HEk.out.bel) k hjl
          obtain ⟨x, hx⟩ : ∃ x, l2[k] = x := ⟨_, rfl⟩
          rw [hx] at c0 c1 c2 c3 c4 c5 c6
          have HDo := Lib.hid (do_any x HEk.out.gm (by omega))
          have HS2 := Lib.hid (fun V' hb => Rn2 (V' := V') (j := 60 + k) x HEk.out hSl ht hp1 hp2 HTk.out hb)
          unfold clV at HDo
          have j1 : (0 : Int) ≤ (k : Int) := by omega
          have j2 : (k : Int) < (M2 : Int) := by omega
          clear hx hjl hp1 hp2 ht
          go_wp2_with fail
          refine HDo.out.mono ?_
          rintro e w7 ⟨rfl, h7⟩
          have HR7 := Lib.hid (HS2.out _ h7)
          clear h7 HDo HS2 c0 c1 c2 c3 c4 c5 c6
          go_wp2_with fail
          go_roundw
          case rel =>
            obtain ⟨p9, L9, f9, t9, S9, q1, q2', q3, q4, q5, q6⟩ := HR7.out
            exact ⟨k + 1, by omega, by go_num, p9, L9, f9, t9, S9, q1, by omega, by omega, q4, q5, q6⟩
          case measure => simp [intOf]; omega
        · obtain rfl : k = M2 := by omega
          have HCe3 : Hid (Calls Tryz.prog 31 #[.pointer (some ⟨q, 0, none⟩)] wr fun e w' => e = .returned (.pointer (some ⟨p'.qc, 0, none⟩)) ∧ wr = w') := cells_any HEk.out.gm
          have hlen : (splice (zeros N) 0 bs).length = (256 * N).toNat := by have := HZ.out; have := HZ2.out; omega
          have hFi := Ce.fill_yes p'.qc p'.gc (splice (zeros N) 0 bs) 0 (256 * N).toNat 7#8 wr HEk.out.gm.gx.mem (by omega)
          have e7 : (((256 * N).toNat : Nat) : Int) = 256 * N := by omega
          have e8 : Ce.y 7#8 = 7 := by decide
          rw [e7, e8] at hFi
          unfold Ce.Wrote at hFi
          have HFi := Lib.hid hFi
          clear hp1 hp2 hlt hk HM2 HC2 hSl ht hFi e7 e8 hlen
          go_wp2_with fail
          refine HCe3.out.mono ?_
          rintro e w' ⟨rfl, rfl⟩
          go_wp2_with fail
          refine HFi.out.mono ?_
          rintro e w8 ⟨rfl, m8, g8⟩
          have HT8 := Lib.hid (HTk.out.bytes HEk.out.gm.gx g8)
          have HB8 : Hid (Below w.heap.size w w8) := HEk.out.bel.grown g8 HEk.out.bel.size (fun g hg => by have := HEk.out.fresh.2.2; cases hg; exact this)
          have HCe4 := Lib.hid (cells_any HT8.out.gm)
          have hRd := Ce.read_yes p2.qc p2.gc (splice (zeros N) 0 bs) 0 K w8 HT8.out.gm.gx.mem (by have := HZ.out; have := HZ2.out; omega)
          have es : Ce.sub (splice (zeros N) 0 bs) 0 K = bs := by rw [← HK.out]; exact sub_splice _ _
          rw [es] at hRd
          unfold Ce.Gave at hRd
          rw [HK.out] at hRd
          have HRd := Lib.hid hRd
          clear m8 g8 hRd es HFi HCe3 HTk HEk
          go_wp2_with fail
          refine HCe4.out.mono ?_
          rintro e w' ⟨rfl, rfl⟩
          go_wp2_with fail
          refine HRd.out.mono ?_
          rintro e w9 ⟨rfl, r9, b9⟩
          have HT9 := Lib.hid (HT8.out.below b9)
          have HB9 := Lib.hid (up_trans HB8.out b9)
          have hSm := Ce.same_yes (some ⟨w8.heap.size, 0, none⟩) A3 bs K c3 w9.heap.size w.heap.size w9 (Ce.BA.row r9) (HBs.out.below HB9.out) (by rw [HK.out]; omega)
          rw [HK.out] at hSm
          have HSm := Lib.hid hSm
          clear r9 b9 hSm HRd HCe4 HT8 HB8
          go_wp2_with fail
          refine HSm.out.mono ?_
          rintro e w10 ⟨rfl, dr⟩
          have bd : Below w9.heap.size w9 w10 := by obtain ⟨j, rfl⟩ := dr; exact up_drew (Below.refl _ _) j
          have HT10 := Lib.hid (HT9.out.below bd)
          have HB10 := Lib.hid (up_trans HB9.out bd)
          have HFr2 := Lib.hid (free_any HT10.out.gm)
          clear bd dr HSm HT9 HB9
          have df : (Sp.fsum L == Sp.fsum L) = true := by simp
          have dt : (t == t) = true := by simp
          generalize Sp.fsum L = fs at *
          go_wp2_with fail
          refine HFr2.out.mono ?_
          rintro e w11 ⟨rfl, b11⟩
          have HT11 := Lib.hid (HT10.out.below b11)
          have HB11 := Lib.hid (up_trans HB10.out b11)
          have HSt2 := Lib.hid (stamp_any HT11.out.gm)
          clear b11
          go_wp2_with fail
          refine HSt2.out.mono ?_
          rintro e w' ⟨rfl, rfl⟩
          go_wp2_with fail
          go_ret
          exact ⟨rfl, HB11.out⟩
end Go.Proofs.YtjnknnakllbaaaaGreat.Gr
