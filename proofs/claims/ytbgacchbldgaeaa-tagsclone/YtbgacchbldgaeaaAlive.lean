/-
  Lists that are the same, and the call that every statement makes first: contracts that the claimed proofs use.
-/
import Derived.Test.YtbgacchbldgaeaaBoth
namespace Go.Proofs.Ytbgacchbldgaeaa
open Go.RowKit Go.Maps

set_option maxRecDepth 100000 in
set_option maxHeartbeats 4000000 in
theorem samerows_any (X : List Tr) (A1 A2 : Option Addr) (c1 c2 n1 n2 : Nat) (w : World) (h1 : At w.heap.size w A1 (flat4 X)) (h2 : At w.heap.size w A2 (flat4 X)) (hl : X.length ≤ 1048576) (e1 : X.length = n1) (e2 : X.length = n2) :
    Calls Try.prog 20 #[.slice A1 n1 c1, .slice A2 n2 c2] w fun e w' => e = .returned (.bool true) ∧ Below w.heap.size w w' := by
  obtain rfl : n1 = n2 := e1.symm.trans e2
  have H1 := Lib.hid h1
  have H2 := Lib.hid h2
  have HN := Lib.hid e1
  rw [e1] at hl
  have hd : ((n1 : Int) != (n1 : Int)) = false := by simp
  clear h1 h2 e1 e2
  go_enter Try.func20, Try.ntmps20
  go_wp2_with fail
  go_loopw [5] (fun i wr => ∃ k : Nat, k ≤ n1 ∧ i = .int .i64 k ∧ Below w.heap.size w wr) (fun i _ => n1 - (intOf i).toNat)
  case atStart => exact ⟨0, by omega, rfl, Below.refl _ _⟩
  case round =>
    obtain ⟨k, hk, rfl, hb⟩ := hrel
    have HB := Lib.hid hb
    by_cases hlt : k < n1
    · have hkl : k < X.length := by rw [HN.out]; exact hlt
      obtain ⟨b, o, rfl, _, q0, q1, q2, q3⟩ := (H1.out.below hb).row hkl
      obtain ⟨b', o', rfl, _, r0, r1, r2, r3⟩ := (H2.out.below hb).row hkl
      have j1 : (0 : Int) ≤ (k : Int) := by omega
      have j2 : (k : Int) < (n1 : Int) := by omega
      obtain ⟨x, hx⟩ : ∃ x, X[k] = x := ⟨_, rfl⟩
      rw [hx] at q0 q1 q2 q3 r0 r1 r2 r3
      obtain ⟨p, s, kk, z⟩ := x
      simp only [] at q0 q1 q2 q3 r0 r1 r2 r3
      have heq := fun V => eq44 V p s kk z p s kk z
      clear hx hkl hb
      go_wp2_with fail
      go_quiet (fail)
      go_wp2_with fail
      go_roundw
      case rel => exact ⟨k + 1, by omega, by go_num, up_drew HB.out _⟩
      case measure => simp [intOf]; omega
    · obtain rfl : k = n1 := by omega
      clear hb
      go_wp2_with fail
      go_ret
      exact ⟨rfl, HB.out⟩
set_option maxRecDepth 100000 in
set_option maxHeartbeats 4000000 in
theorem sameints_any (X : List Int) (A1 A2 : Option Addr) (c1 c2 n1 n2 : Nat) (w : World) (h1 : At w.heap.size w A1 (ints X)) (h2 : At w.heap.size w A2 (ints X)) (hl : X.length ≤ 1048576) (e1 : X.length = n1) (e2 : X.length = n2) :
    Calls Try.prog 14 #[.slice A1 n1 c1, .slice A2 n2 c2] w fun e w' => e = .returned (.bool true) ∧ Below w.heap.size w w' := by
  obtain rfl : n1 = n2 := e1.symm.trans e2
  have H1 := Lib.hid h1
  have H2 := Lib.hid h2
  have HN := Lib.hid e1
  rw [e1] at hl
  have hd : ((n1 : Int) != (n1 : Int)) = false := by simp
  clear h1 h2 e1 e2
  go_enter Try.func14, Try.ntmps14
  go_wp2_with fail
  go_loopw [5] (fun i wr => ∃ k : Nat, k ≤ n1 ∧ i = .int .i64 k ∧ Below w.heap.size w wr) (fun i _ => n1 - (intOf i).toNat)
  case atStart => exact ⟨0, by omega, rfl, Below.refl _ _⟩
  case round =>
    obtain ⟨k, hk, rfl, hb⟩ := hrel
    have HB := Lib.hid hb
    by_cases hlt : k < n1
    · have hkl : k < X.length := by rw [HN.out]; exact hlt
      obtain ⟨b, o, rfl, _, q0⟩ := (H1.out.below hb).int hkl
      obtain ⟨b', o', rfl, _, r0⟩ := (H2.out.below hb).int hkl
      have j1 : (0 : Int) ≤ (k : Int) := by omega
      have j2 : (k : Int) < (n1 : Int) := by omega
      obtain ⟨x, hx⟩ : ∃ x, X[k] = x := ⟨_, rfl⟩
      rw [hx] at q0 r0
      have hxx : (x != x) = false := by simp
      clear hx hkl hb
      go_wp2_with fail
      go_quiet (fail)
      go_wp2_with fail
      go_roundw
      case rel => exact ⟨k + 1, by omega, by go_num, up_drew HB.out _⟩
      case measure => simp [intOf]; omega
    · obtain rfl : k = n1 := by omega
      clear hb
      go_wp2_with fail
      go_ret
      exact ⟨rfl, HB.out⟩
theorem a1 : putE [] ⟨3, 5, 1, 40⟩ = 0 ∧ putL [] ⟨3, 5, 1, 40⟩ = [⟨3, 5, 1, 40⟩] := by decide +kernel
theorem a2 : putE [⟨3, 5, 1, 40⟩] ⟨3, 4, 1, 2⟩ = 0 ∧ putL [⟨3, 5, 1, 40⟩] ⟨3, 4, 1, 2⟩ = [⟨3, 4, 1, 2⟩, ⟨3, 5, 1, 40⟩] := by decide +kernel
theorem a3 : movE [⟨3, 4, 1, 2⟩, ⟨3, 5, 1, 40⟩] 3 5 ⟨2, 0, 4, 70⟩ = 0 ∧ movL [⟨3, 4, 1, 2⟩, ⟨3, 5, 1, 40⟩] 3 5 ⟨2, 0, 4, 70⟩ = [⟨2, 0, 4, 70⟩, ⟨3, 4, 1, 2⟩] := by decide +kernel
theorem a4 : dropE [⟨2, 0, 4, 70⟩, ⟨3, 4, 1, 2⟩] 3 4 = 0 ∧ del [⟨2, 0, 4, 70⟩, ⟨3, 4, 1, 2⟩] 3 4 = [⟨2, 0, 4, 70⟩] ∧ rowOf [⟨2, 0, 4, 70⟩, ⟨3, 4, 1, 2⟩] 3 4 = ⟨3, 4, 1, 2⟩ := by decide +kernel
theorem a5 : dropE [⟨2, 0, 4, 70⟩] 3 4 = 16 ∧ del [⟨2, 0, 4, 70⟩] 3 4 = [⟨2, 0, 4, 70⟩] ∧ rowOf [⟨2, 0, 4, 70⟩] 3 4 = ⟨3, 4, 0, 0⟩ := by decide +kernel
theorem a6 : rowOf [⟨2, 0, 4, 70⟩] 2 0 = ⟨2, 0, 4, 70⟩ ∧ hasB [⟨2, 0, 4, 70⟩] 2 0 = true ∧ bytes [⟨2, 0, 4, 70⟩] = 70 ∧ same [⟨2, 0, 4, 70⟩] 4 70 = 1 := by decide +kernel
theorem a7 : ofW [⟨2, 0, 4, 70⟩, ⟨3, 4, 1, 2⟩] 4 = [⟨2, 0, 4, 70⟩] ∧ inP [⟨2, 0, 4, 70⟩] 2 = [⟨2, 0, 4, 70⟩] := by decide +kernel
theorem cell_b {W W' : World} {b g i : Nat} {u : Value} {K : List Tr} (h : W.cell? ⟨g, i, none⟩ = some u) (hm : Mp W b K) (hg : W.grownBy W' (some b)) : W'.cell? ⟨g, i, none⟩ = some u := by
  obtain ⟨es, c, ho⟩ := hm.obj
  refine (cell_same (hg.block g (World.block_lt_of_cell? W _ h) (fun e => ?_))).trans h
  cases e
  unfold World.cell? at h
  simp [ho] at h
theorem i64_small {x : Int} (h0 : -1000 ≤ x) (h1 : x ≤ 1000) : I64 x := by unfold I64; omega
set_option maxRecDepth 100000 in
set_option maxHeartbeats 8000000 in
theorem alive_any (w : World) : Calls Try.prog 7 #[] w fun e w' => e = .returned (.bool true) ∧ Below w.heap.size w w' := by
  have HNew := Lib.hid (new_any w)
  go_enter Try.func7, Try.ntmps7
  go_wp2_with fail
  refine HNew.out.mono ?_
  rintro e w1 ⟨rfl, t1, b1, s1⟩
  obtain ⟨q, hq⟩ : ∃ q, w.heap.size + 1 = q := ⟨_, rfl⟩
  obtain ⟨b, hb⟩ : ∃ b, w.heap.size = b := ⟨_, rfl⟩
  have hbw : w.heap.size ≤ b := Nat.le_of_eq hb
  have HB1 := Lib.hid b1
  rw [hq, hb] at t1
  rw [hq]
  have T1 := Lib.hid t1
  clear HNew s1 t1 b1 hq hb
  go_wp2_with fail
  refine (put_any T1.out ⟨3, 5, 1, 40⟩).mono ?_
  rw [a1.1, a1.2]
  rintro e w2 ⟨rfl, t2, g2⟩
  have T2 := Lib.hid t2
  have HB2 := Lib.hid (grown_new HB1.out g2 hbw)
  clear t2 g2 T1 HB1
  go_wp2_with fail
  refine (put_any T2.out ⟨3, 4, 1, 2⟩).mono ?_
  rw [a2.1, a2.2]
  rintro e w3 ⟨rfl, t3, g3⟩
  have T3 := Lib.hid t3
  have HB3 := Lib.hid (grown_new HB2.out g3 hbw)
  clear t3 g3 T2 HB2
  go_wp2_with fail
  refine (move_any T3.out (p := 3) (s := 5) (i64_small (by omega) (by omega)) (i64_small (by omega) (by omega)) ⟨2, 0, 4, 70⟩).mono ?_
  rw [a3.1, a3.2]
  rintro e w4 ⟨rfl, t4, g4⟩
  have T4 := Lib.hid t4
  have HB4 := Lib.hid (grown_new HB3.out g4 hbw)
  clear t4 g4 T3 HB3
  go_wp2_with fail
  refine (of_any T4.out 4).mono ?_
  rw [a7.1]
  rintro e w5 ⟨A, ca, rfl, at5, b5⟩
  have T5 := Lib.hid (T4.out.below b5)
  have HB5 := Lib.hid (up_trans HB4.out b5)
  obtain ⟨gb, go, rfl, hgb, hcell⟩ := at5 (by simp [flat, enc])
  have hc5 := Lib.hid (hcell 0 (.int .i64 2) (by simp [flat, enc, plc]))
  have hgl := Lib.hid hgb
  clear at5 b5 T4 HB4 hgb hcell
  go_wp2_with fail
  refine (drop_any T5.out (p := 3) (s := 4) (i64_small (by omega) (by omega)) (i64_small (by omega) (by omega))).mono ?_
  rw [a4.1, a4.2.1, a4.2.2]
  rintro e w6 ⟨rfl, t6, g6⟩
  have hc6 := cell_b hc5.out T5.out.mp g6
  obtain ⟨w7, hw7⟩ : ∃ w7, w6.alloc (.cells #[.int .i64 1, .int .i64 2] 26) = w7 := ⟨_, rfl⟩
  have b7 : Below w6.heap.size w6 w7 := by rw [← hw7]; exact up_alloc (Below.refl _ _) _
  have x7 : Blk w7 w6.heap.size [.int .i64 1, .int .i64 2] 26 := by rw [← hw7]; exact Blk.new w6 _ 26
  have T7 := Lib.hid (t6.below b7)
  have HB7 := Lib.hid (up_trans (grown_new HB5.out g6 hbw) b7)
  have C7 := Lib.hid ((b7.cell (p := ⟨gb, go + 0, none⟩) (World.block_lt_of_cell? w6 _ hc6)).trans hc6)
  have X7 := Lib.hid x7
  clear t6 g6 hc6 b7 x7 T5 HB5 hc5 hgl
  go_wp2_with fail
  clear hw7
  refine (drop_any T7.out (p := 3) (s := 4) (i64_small (by omega) (by omega)) (i64_small (by omega) (by omega))).mono ?_
  rw [a5.1, a5.2.1, a5.2.2]
  rintro e w8 ⟨rfl, t8, g8⟩
  obtain ⟨w9, hw9⟩ : ∃ w9, w8.alloc (.cells #[.int .i64 0, .int .i64 0] 26) = w9 := ⟨_, rfl⟩
  have b9 : Below w8.heap.size w8 w9 := by rw [← hw9]; exact up_alloc (Below.refl _ _) _
  have c8 := cell_b C7.out T7.out.mp g8
  have T9 := Lib.hid (t8.below b9)
  have HB9 := Lib.hid (up_trans (grown_new HB7.out g8 hbw) b9)
  have C9 := Lib.hid ((b9.cell (p := ⟨gb, go + 0, none⟩) (World.block_lt_of_cell? w8 _ c8)).trans c8)
  have X9 := Lib.hid ((blk_b X7.out T7.out.mp g8).below b9)
  have HW9 := Lib.hid hw9
  clear t8 g8 c8 b9 T7 HB7 C7 X7 hw9
  go_wp2_with fail
  rw [HW9.out]
  refine (get_any T9.out (p := 2) (s := 0) (i64_small (by omega) (by omega)) (i64_small (by omega) (by omega))).mono ?_
  rw [a6.1, a6.2.1]
  rintro e w10 ⟨rfl, b10⟩
  obtain ⟨w11, hw11⟩ : ∃ w11, w10.alloc (.cells #[.int .i64 4, .int .i64 70] 26) = w11 := ⟨_, rfl⟩
  have b11 : Below w10.heap.size w10 w11 := by rw [← hw11]; exact up_alloc (Below.refl _ _) _
  have y11 : Blk w11 w10.heap.size [.int .i64 4, .int .i64 70] 26 := by rw [← hw11]; exact Blk.new w10 _ 26
  have bb := up_trans b10 b11
  have T11 := Lib.hid (T9.out.below bb)
  have HB11 := Lib.hid (up_trans HB9.out bb)
  have C11 := (bb.cell (p := ⟨gb, go + 0, none⟩) (World.block_lt_of_cell? w9 _ C9.out)).trans C9.out
  have x11 := X9.out.below bb
  have d1 : w11.cell? ⟨w6.heap.size, 1, none⟩ = some (.int .i64 2) := x11.cell
  have d2 : w11.cell? ⟨w10.heap.size, 1, none⟩ = some (.int .i64 70) := y11.cell
  rw [Nat.add_zero] at C11
  clear b10 b11 y11 bb T9 HB9 C9 X9 x11
  go_wp2_with (first
    | (go_at_call 18; refine (bytes_any T11.out).mono ?_; rw [a6.2.2.1]; rintro e w12 ⟨rfl, b12⟩; have T12 := Lib.hid (T11.out.below b12); have HB12 := Lib.hid (up_trans HB11.out b12); clear b12)
    | (go_at_call 17; refine (count_any T12.out).mono ?_; rintro e w' ⟨rfl, rfl⟩)
    | (go_at_call 16; refine (same_any T12.out 4 70).mono ?_; rw [a6.2.2.2]; rintro e w13 ⟨rfl, b13⟩; have T13 := Lib.hid (T12.out.below b13); have HB13 := Lib.hid (up_trans HB12.out b13); clear b13)
    | (go_at_call 15; refine (in_any T13.out (p := 2) (i64_small (by omega) (by omega))).mono ?_; rw [a7.2]; rintro e w14 ⟨A4, c4, rfl, at4, b14⟩; have HA4 := Lib.hid at4; have HB14 := Lib.hid (up_trans HB13.out b14); clear at4 b14)
    | (go_at_call 14; refine (sameints_any [0] A4 (some ⟨w14.heap.size, 0, none⟩) c4 1 1 1 _ (HA4.out.up (up_alloc (Below.refl _ _) _)) (fun _ => ⟨w14.heap.size, 0, rfl, by simp, fun j u hj => by have := Blk.new w14 [.int .i64 0] 3; rw [Nat.zero_add]; exact (this.cell).trans hj⟩) (by simp) rfl rfl).mono ?_; rintro e w15 ⟨rfl, b15⟩; have HB15 := Lib.hid (up_trans (up_alloc HB14.out _) b15); clear b15))
  go_ret
  exact ⟨rfl, HB15.out⟩
end Go.Proofs.Ytbgacchbldgaeaa
