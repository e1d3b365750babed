/-
  The statements' first call: a contract that the claimed proofs use.
-/
import Derived.Test.YtckcgaliphpgeaaGreatDoorHeStay
namespace Go.Proofs.YtckcgaliphpgeaaGreatDoor.He
set_option maxRecDepth 100000
open Go.RowKit
open Ta (sizeOf' classB)
open Bi (Drawn ret_i ret_b up_alloc up_drew up_trans tst sets)
open Ri (of of_nat up up_at up_far lenOf)
open Gr (kind kind_of kne)

theorem t_keep : HI t1.σ ∧ HI t2.σ ∧ HI t3.σ ∧ HI t4.σ ∧ HI t5.σ ∧ HI t6.σ ∧ HI t7.σ ∧ HI t8.σ := by
  have h0 : HI (σ0 16) := hi0 (by omega)
  have h1 : HI t1.σ := take_keep h0 15
  have h2 : HI t2.σ := take_keep h1 15
  have h3 : HI t3.σ := take_keep h2 15
  have h4 : HI t4.σ := give_keep h3 0
  have h5 : HI t5.σ := seal_keep h4 4
  have h6 : HI t6.σ := give_keep h5 512
  have h7 : HI t7.σ := give_keep h6 1024
  exact ⟨h1, h2, h3, h4, h5, h6, h7, leave_keep h7 0⟩
theorem opt_sb {o : Option Sb} {c : Nat} {l : List Bool} (h1 : o.map (·.c) = some c) (h2 : o.map (·.l) = some l) : o = some ⟨c, l⟩ := by
  cases o with
  | none => cases h1
  | some s => cases s; simp only [Option.map_some, Option.some.injEq] at h1 h2; rw [h1, h2]
theorem u8 : t8.σ.U 0 = some sb0 := opt_sb va5.2.2.2 va5.2.2.1
theorem m5 : ∃ s, t5.σ.M 0 = some s ∧ s.c = 15 ∧ Os.fr s.l = 1 := by
  have h1 := va3.1
  have h2 := va3.2.1
  cases h : t5.σ.M 0 with
  | none => rw [h] at h1; cases h1
  | some s => rw [h] at h1 h2; simp only [Option.map_some, Option.some.injEq] at h1 h2; exact ⟨s, rfl, h1, h2⟩
theorem m7 : atI t7.σ 0 = some sb0 := opt_sb va4.1 va4.2.1
theorem nats_ne {P : Pl} {U : Nat → Option Sb} {W : World} {B : Nat} {v : Value} {o : List Int} (h : Mine P U W B v o) : ∃ A c, v = .slice A o.length c ∧ Os.At W.heap.size W A (Os.ints o) := by
  obtain ⟨A, c, rfl⟩ := Os.own_form h.row
  exact ⟨A, c, rfl, Os.own_at h.row⟩
theorem at_new (w : World) (xs : List Int) : Os.At (w.alloc (.cells (Os.ints xs).toArray 3)).heap.size (w.alloc (.cells (Os.ints xs).toArray 3)) (some ⟨w.heap.size, 0, none⟩) (Os.ints xs) := fun _ =>
  ⟨w.heap.size, 0, rfl, by rw [World.size_alloc]; omega, fun j v hj => by
    have hk := Gr.Blk.new w (Os.ints xs) 3
    rw [Nat.zero_add]
    exact (Bi.Blk.cell hk).trans hj⟩
theorem fnd_eql (w : World) : (binOp .eql 59 (.agg #[.int .i64 0, .int .i64 1]) (.agg #[.int .i64 0, .int .i64 1])).run Tryz.prog w = .ok (.bool true) w := by kernel_rfl
theorem n5t : t5.σ.N = 16 := by decide +kernel
theorem k9t : HI t9 := join_keep t_keep.2.2.2.2.2.2.2 (show 0 ∈ t8.σ.O by rw [va4.2.2.1]; simp) u8
theorem at_next {A : Option Addr} {xs : List Value} {w w' : World} (h : Os.At w.heap.size w A xs) (hb : Below w.heap.size w w') : Os.At w'.heap.size w' A xs := fun hp => by
  obtain ⟨b, o, e, hl, hc⟩ := h.below hb hp
  exact ⟨b, o, e, Nat.lt_of_lt_of_le hl hb.size, hc⟩
structure TV (t1 t2 t3 t4 t5 t6 t7 t8 : An) (t9 : St) : Prop where
  o1 : t1.σ.O = (σ0 16).O
  o2 : t2.σ.O = t1.σ.O
  o3 : t3.σ.O = t2.σ.O
  o4 : t4.σ.O = t3.σ.O
  o5 : t5.σ.O = t4.σ.O
  o6 : t6.σ.O = t5.σ.O
  o7 : t7.σ.O = t6.σ.O
  q1 : takeO (σ0 16) 15 = t1
  q2 : takeO t1.σ 15 = t2
  q3 : takeO t2.σ 15 = t3
  q4 : giveO t3.σ 0 = t4
  q5 : sealO t4.σ 4 = t5
  q6 : giveO t5.σ 512 = t6
  q7 : giveO t6.σ 1024 = t7
  q8 : leaveO t7.σ 0 = t8
  q9 : joinO t8.σ 0 sb0 = t9
  va1 : t1.v = 0 ∧ t1.e = 0 ∧ t2.v = 512 ∧ t2.e = 0 ∧ t3.v = 1024 ∧ t3.e = 0
  va2 : Ri.of t3.σ.R (ringI 15 1) = [0] ∧ findO t3.σ 512 = (0, 1, 0) ∧ hasO t3.σ 512 = true ∧ t4.e = 0 ∧ Ri.of t4.σ.R (ringI 15 0) = [0, 4] ∧ t5.e = 0
  va3 : (t5.σ.M 0).map (·.c) = some 15 ∧ (t5.σ.M 0).map (fun s => Os.fr s.l) = some 1 ∧ t6.e = 0 ∧ t7.e = 0 ∧ t8.e = 0
  va4 : (t7.σ.M 0).map (·.c) = some 15 ∧ (t7.σ.M 0).map (·.l) = some [false, false] ∧ t8.σ.O = [0] ∧ pagesO t9 = [0] ∧ takenO t9 = [] ∧ t9.R 60 = [] ∧ t9.R 62 = [0]
  va5 : (unsealO t9 0).e = 20 ∧ (unsealO (unsealO t9 0).σ 4).e = 16 ∧ (t8.σ.U 0).map (·.l) = some [false, false] ∧ (t8.σ.U 0).map (·.c) = some 15
  va6 : t1.σ.S.length ≤ 9 ∧ t2.σ.S.length ≤ 9 ∧ t3.σ.S.length ≤ 9 ∧ t4.σ.S.length ≤ 9 ∧ t5.σ.S.length ≤ 9 ∧ t6.σ.S.length ≤ 9 ∧ t7.σ.S.length ≤ 9 ∧ t8.σ.S.length ≤ 9 ∧ t9.S.length ≤ 9 ∧ (unsealO t9 0).σ.S.length ≤ 9
  keep : HI t1.σ ∧ HI t2.σ ∧ HI t3.σ ∧ HI t4.σ ∧ HI t5.σ ∧ HI t6.σ ∧ HI t7.σ ∧ HI t8.σ
  u8 : t8.σ.U 0 = some sb0
  m5 : ∃ s, t5.σ.M 0 = some s ∧ s.c = 15 ∧ Os.fr s.l = 1
  m7 : atI t7.σ 0 = some sb0
  uu : t8.σ.U = t7.σ.U
  n5 : t5.σ.N = 16
  k9 : HI t9
  kA : HI (unsealO t9 0).σ
theorem tv : ∃ t1 t2 t3 t4 t5 t6 t7 t8 t9, TV t1 t2 t3 t4 t5 t6 t7 t8 t9 :=
  ⟨t1, t2, t3, t4, t5, t6, t7, t8, t9, ⟨(take_N _ _).2, (take_N _ _).2, (take_N _ _).2, (give_N _ _).2, (seal_N _ _).2, (give_N _ _).2, (give_N _ _).2, rfl, rfl, rfl, rfl, rfl, rfl, rfl, rfl, rfl, va1, va2, va3, va4, va5, va6, t_keep, u8, m5, m7, rfl, n5t, k9t, unseal_keep k9t 0⟩⟩
set_option maxHeartbeats 16000000 in
theorem alive_any (w : World) (hT : Os.Tb w) : Calls Tryz.prog 7 #[] w fun e w' => e = .returned (.bool true) ∧ Below w.heap.size w w' := by
  have HBg := Lib.hid (begin_yes 16 w (by omega) hT)
  rw [show ((16 : Nat) : Int) = 16 from rfl] at HBg
  obtain ⟨t1, t2, t3, t4, t5, t6, t7, t8, t9, tvv⟩ := tv
  have T := Lib.hid tvv
  clear tvv
  clear hT
  go_enter Tryz.func7, Tryz.ntmps7
  go_wp2_with fail
  refine HBg.out.mono ?_
  rintro e w1 ⟨x, y, P1, bs, rfl, hw1, _⟩
  have W1 := Lib.hid hw1
  clear hw1 HBg
  have c1 := W1.out.cells.2
  have HC2 := Lib.hid (take_any W1.out.hm W1.out.hi 15 (by decide))
  rw [T.out.q1, T.out.va1.1, T.out.va1.2.1] at HC2
  go_wp2_with fail
  refine HC2.out.mono ?_
  rintro e w2 ⟨rfl, hl⟩
  obtain ⟨P2, -, -, hw, -, -⟩ := W1.out.step hl T.out.o1 T.out.keep.1
  have W2 := Lib.hid hw
  clear hl hw HC2 c1 W1
  have c2 := W2.out.cells.2
  have HC3 := Lib.hid (take_any W2.out.hm W2.out.hi 15 (by have := T.out.va6; omega))
  rw [T.out.q2, T.out.va1.2.2.1, T.out.va1.2.2.2.1] at HC3
  go_wp2_with fail
  refine HC3.out.mono ?_
  rintro e w3 ⟨rfl, hl⟩
  obtain ⟨P3, -, -, hw, -, -⟩ := W2.out.step hl T.out.o2 T.out.keep.2.1
  have W3 := Lib.hid hw
  clear hl hw HC3 c2 W2
  have c3 := W3.out.cells.2
  have HC4 := Lib.hid (take_any W3.out.hm W3.out.hi 15 (by have := T.out.va6; omega))
  rw [T.out.q3, T.out.va1.2.2.2.2.1, T.out.va1.2.2.2.2.2] at HC4
  go_wp2_with fail
  refine HC4.out.mono ?_
  rintro e w4 ⟨rfl, hl⟩
  obtain ⟨P4, -, -, hw, -, -⟩ := W3.out.step hl T.out.o3 T.out.keep.2.2.1
  have W4 := Lib.hid hw
  clear hl hw HC4 c3 W3
  have c4 := W4.out.cells.2
  have HL1 := Lib.hid (list_mine W4.out.hm 15 1)
  rw [T.out.va2.1] at HL1
  go_wp2_with fail
  refine HL1.out.mono ?_
  rintro e w5 ⟨v1, rfl, hm, hb⟩
  have W5 := Lib.hid (W4.out.below hb)
  have M5 := Lib.hid hm
  clear hm hb HL1 c4 W4
  have c5 := W5.out.cells.2
  have HF := Lib.hid (find_any W5.out.hm W5.out.hi 512 (by unfold Os.I64; omega))
  rw [T.out.va2.2.1] at HF
  dsimp only at HF
  go_wp2_with fail
  refine HF.out.mono ?_
  rintro e w6 ⟨rfl, hb⟩
  obtain ⟨w7, hw7⟩ : ∃ w7, w6.alloc (.cells #[.int .i64 0, .int .i64 1] 59) = w7 := ⟨_, rfl⟩
  have b7 : Below w5.heap.size w5 w7 := by rw [← hw7]; exact up_alloc hb _
  have k7 : Bi.Blk w7 w6.heap.size [.int .i64 0, .int .i64 1] 59 := by rw [← hw7]; exact Gr.Blk.new w6 _ 59
  obtain ⟨bf, hbf⟩ : ∃ bf, w6.heap.size = bf := ⟨_, rfl⟩
  rw [hbf] at k7
  have W7 := Lib.hid (W5.out.below b7)
  have M7 := Lib.hid (M5.out.below b7)
  have K7 := Lib.hid k7
  clear hb b7 k7 HF c5 W5 M5
  have c7 := W7.out.cells.2
  have HH := Lib.hid (has_is W7.out.hm W7.out.hi 512 (by unfold Os.I64; omega))
  rw [T.out.va2.2.2.1] at HH
  go_wp2_with fail
  clear hw7 hbf
  refine HH.out.mono ?_
  rintro e w8 ⟨rfl, hb⟩
  have W8 := Lib.hid (W7.out.below hb)
  have M8 := Lib.hid (M7.out.below hb)
  have K8 := Lib.hid (K7.out.below hb)
  clear hb HH c7 W7 M7 K7
  have c8 := W8.out.cells.2
  have HG := Lib.hid (give_any W8.out.hm W8.out.hi 0 (by unfold Os.I64; omega) (by have := T.out.va6; omega))
  rw [T.out.q4, T.out.va2.2.2.2.1] at HG
  go_wp2_with fail
  refine HG.out.mono ?_
  rintro e w9 ⟨rfl, hl⟩
  obtain ⟨P9, -, -, hw, f9, n9⟩ := W8.out.step hl T.out.o4 T.out.keep.2.2.2.1
  have W9 := Lib.hid hw
  have M9 := Lib.hid (M8.out.left f9 n9)
  have K9 := Lib.hid (K8.out.of (f9.block _ K8.out.lt (W8.out.hm.own59 (kind_of K8.out))))
  clear hl hw f9 n9 HG c8 W8 M8 K8
  have c9 := W9.out.cells.2
  have HL2 := Lib.hid (list_mine W9.out.hm 15 0)
  rw [T.out.va2.2.2.2.2.1] at HL2
  go_wp2_with fail
  refine HL2.out.mono ?_
  rintro e w10 ⟨v2, rfl, hm, hb⟩
  have W10 := Lib.hid (W9.out.below hb)
  have M10 := Lib.hid (M9.out.below hb)
  have K10 := Lib.hid (K9.out.below hb)
  have Q10 := Lib.hid hm
  clear hm hb HL2 c9 W9 M9 K9
  have c10 := W10.out.cells.2
  have HS := Lib.hid (seal_any W10.out.hm W10.out.hi 4 (by unfold I64; omega) (by have := T.out.va6; omega))
  rw [T.out.q5, T.out.va2.2.2.2.2.2] at HS
  go_wp2_with fail
  refine HS.out.mono ?_
  rintro e w11 ⟨rfl, hl⟩
  obtain ⟨P11, -, -, hw, f9, n9⟩ := W10.out.step hl T.out.o5 T.out.keep.2.2.2.2.1
  have W11 := Lib.hid hw
  have M11 := Lib.hid (M10.out.left f9 n9)
  have Q11 := Lib.hid (Q10.out.left f9 n9)
  have K11 := Lib.hid (K10.out.of (f9.block _ K10.out.lt (W10.out.hm.own59 (kind_of K10.out))))
  clear hl hw f9 n9 HS c10 W10 M10 K10 Q10
  have c11 := W11.out.cells.2
  obtain ⟨s5, hm5, hc5, hf5⟩ := T.out.m5
  have HSl := Lib.hid (slab_yes W11.out.hm hm5 (by rw [T.out.n5]; omega))
  rw [show ((0 : Nat) : Int) = 0 from rfl] at HSl
  have HF5 := Lib.hid hf5
  clear hm5 hc5 hf5
  go_wp2_with fail
  refine HSl.out.mono ?_
  rintro e w12 ⟨ss, sq, sg, rfl, hs, h1, h2, hb⟩
  have S12 := Lib.hid (SlK.made W11.out.hm hb hs h1 h2)
  have W12 := Lib.hid (W11.out.below hb)
  have M12 := Lib.hid (M11.out.below hb)
  have Q12 := Lib.hid (Q11.out.below hb)
  have K12 := Lib.hid (K11.out.below hb)
  clear hs h1 h2 hb HSl c11 W11 M11 K11 Q11
  have c12 := W12.out.cells.2
  have HG := Lib.hid (give_any W12.out.hm W12.out.hi 512 (by unfold Os.I64; omega) (by have := T.out.va6; omega))
  rw [T.out.q6, T.out.va3.2.2.1] at HG
  go_wp2_with fail
  refine HG.out.mono ?_
  rintro e w13 ⟨rfl, hl⟩
  obtain ⟨P13, -, -, hw, f9, n9⟩ := W12.out.step hl T.out.o6 T.out.keep.2.2.2.2.2.1
  have W13 := Lib.hid hw
  have M13 := Lib.hid (M12.out.left f9 n9)
  have Q13 := Lib.hid (Q12.out.left f9 n9)
  have S13 := Lib.hid (S12.out.left f9 n9)
  have K13 := Lib.hid (K12.out.of (f9.block _ K12.out.lt (W12.out.hm.own59 (kind_of K12.out))))
  clear hl hw f9 n9 HG c12 W12 M12 K12 Q12 S12
  have c13 := W13.out.cells.2
  have HG := Lib.hid (give_any W13.out.hm W13.out.hi 1024 (by unfold Os.I64; omega) (by have := T.out.va6; omega))
  rw [T.out.q7, T.out.va3.2.2.2.1] at HG
  go_wp2_with fail
  refine HG.out.mono ?_
  rintro e w14 ⟨rfl, hl⟩
  obtain ⟨P14, -, -, hw, f9, n9⟩ := W13.out.step hl T.out.o7 T.out.keep.2.2.2.2.2.2.1
  have W14 := Lib.hid hw
  have M14 := Lib.hid (M13.out.left f9 n9)
  have Q14 := Lib.hid (Q13.out.left f9 n9)
  have S14 := Lib.hid (S13.out.left f9 n9)
  have K14 := Lib.hid (K13.out.of (f9.block _ K13.out.lt (W13.out.hm.own59 (kind_of K13.out))))
  clear hl hw f9 n9 HG c13 W13 M13 K13 Q13 S13
  have c14 := W14.out.cells.2
  have HLv := Lib.hid (leave_any W14.out.hm W14.out.hi 0 (by unfold I64; omega))
  rw [T.out.q8, T.out.va3.2.2.2.2, T.out.m7] at HLv
  simp only [Option.map_some, pV, show (0 : Int).toNat = 0 from rfl] at HLv
  go_wp2_with fail
  refine HLv.out.mono ?_
  rintro e w15 ⟨rfl, h15, f9⟩
  have n9 : He.Nw w14.heap.size P14 t7.σ.U P14 t8.σ.U := fun k hk => .inl (by rw [← T.out.uu]; exact hk)
  have H15 := Lib.hid h15
  have M15 := Lib.hid (M14.out.left f9 n9)
  have Q15 := Lib.hid (Q14.out.left f9 n9)
  have S15 := Lib.hid (S14.out.left f9 n9)
  have K15 := Lib.hid (K14.out.of (f9.block _ K14.out.lt (W14.out.hm.own59 (kind_of K14.out))))
  have c15 : w15.cell? ⟨x, 1, none⟩ = some (.pointer (some ⟨P14.h, 0, none⟩)) := by
    obtain ⟨v, hb, _⟩ := W14.out.blk
    exact (hb.of (f9.block x hb.lt (fun ho => (W14.out.hm.own_kind ho).1 (kind_of hb)))).cell
  have B15 := Lib.hid (W14.out.bel.trans (f9.below W14.out.new W14.out.bel.size))
  have O15 := Lib.hid W14.out.new
  have X15 : Hid (Bi.Blk w15 x [.pointer (some ⟨P14.q, 0, none⟩), .pointer (some ⟨P14.h, 0, none⟩), .slice none 0 0] 39 ∨ ∃ v, Bi.Blk w15 x [.pointer (some ⟨P14.q, 0, none⟩), .pointer (some ⟨P14.h, 0, none⟩), v] 39) := by
    obtain ⟨v, hb, _⟩ := W14.out.blk
    exact .inr ⟨v, hb.of (f9.block x hb.lt (fun ho => (W14.out.hm.own_kind ho).1 (kind_of hb)))⟩
  clear h15 f9 n9 HLv c14 W14 M14 K14 Q14 S14
  have HJ := Lib.hid (join_any H15.out T.out.keep.2.2.2.2.2.2.2 (p := 0) (s := sb0) (show 0 ∈ t8.σ.O by rw [T.out.va4.2.2.1]; simp) T.out.u8 (by have := T.out.va6; omega))
  rw [T.out.q9] at HJ
  go_wp2_with fail
  refine HJ.out.mono ?_
  rintro e w16 ⟨rfl, P16, p1, p2, -, h16, f9, n9⟩
  have H16 := Lib.hid h16
  have M16 := Lib.hid (M15.out.left f9 n9)
  have Q16 := Lib.hid (Q15.out.left f9 n9)
  have S16 := Lib.hid (S15.out.left f9 n9)
  have K16 := Lib.hid (K15.out.of (f9.block _ K15.out.lt (H15.out.own59 (kind_of K15.out))))
  have hkx : Hid (kind w15 x = 39) := by
    rcases X15.out with h | ⟨v, h⟩
    · exact kind_of h
    · exact kind_of h
  have c16 : w16.cell? ⟨x, 1, none⟩ = some (.pointer (some ⟨P16.h, 0, none⟩)) := by
    rw [p1, ← c15]
    exact cell_same (f9.block x (World.block_lt_of_cell? _ _ c15) (fun ho => (H15.out.own_kind ho).1 hkx.out))
  have KX16 : Hid (kind w16 x = 39 ∧ x < w16.heap.size) := by
    have hl := World.block_lt_of_cell? _ _ c15
    refine ⟨?_, Nat.lt_of_lt_of_le hl f9.size⟩
    have hh := f9.block x hl (fun ho => (H15.out.own_kind ho).1 hkx.out)
    unfold kind; rw [hh]; exact hkx.out
  have B16 : Hid (Below w.heap.size w w16) := B15.out.trans (f9.below (fun k hk => by
    have := O15.out k (by rw [← T.out.uu]; exact hk); exact this) B15.out.size)
  have O16 : Hid (∀ k, Own P16 t9.U k → w.heap.size ≤ k) := fun k hk => by
    rcases n9 k hk with e | e
    · exact O15.out k (by rw [← T.out.uu]; exact e)
    · have := B15.out.size; omega
  clear p1 p2 h16 f9 n9 HJ c15 H15 M15 K15 Q15 S15 B15 O15 X15 hkx
  obtain ⟨A1, cp1, rfl, at1⟩ := nats_ne M16.out
  obtain ⟨A2, cp2, rfl, at2⟩ := nats_ne Q16.out
  have AT1 := Lib.hid at1
  have AT2 := Lib.hid at2
  have e1 : (nats [0]).length = 1 := rfl
  have e2 : (nats [0, 4]).length = 2 := rfl
  rw [e1, e2]
  have g0 : w16.cell? ⟨bf, 0, none⟩ = some (.int .i64 0) := K16.out.cell
  have g1 : w16.cell? ⟨bf, 1, none⟩ = some (.int .i64 1) := K16.out.cell
  have feq := fnd_eql
  clear at1 at2 e1 e2 M16 Q16
  go_wp2_with fail
  obtain ⟨w17, hw17⟩ : ∃ w17, w16.alloc (.cells #[.int .i64 0] 3) = w17 := ⟨_, rfl⟩
  have b17 : Below w16.heap.size w16 w17 := by rw [← hw17]; exact up_alloc (Below.refl _ _) _
  have n17 : Os.At w17.heap.size w17 (some ⟨w16.heap.size, 0, none⟩) (Os.ints (nats [0])) := by rw [← hw17]; exact at_new w16 (nats [0])
  have HS1 := Lib.hid (sameints_any (nats [0]) A1 (some ⟨w16.heap.size, 0, none⟩) cp1 1 1 1 w17 (at_next AT1.out b17) n17 (by decide) rfl rfl)
  have H17 := Lib.hid (H16.out.below b17)
  have B17 := Lib.hid b17
  have S17 := Lib.hid (S16.out.below b17)
  have Q17 := Lib.hid (at_next AT2.out b17)
  have c17 := (cell_same (b17.block _ (World.block_lt_of_cell? _ _ c16))).trans c16
  rw [hw17]
  clear hw17 b17 n17 c16 g0 g1 H16 S16 AT1 AT2 K16
  refine HS1.out.mono ?_
  rintro e w18 ⟨rfl, hb⟩
  have H18 := Lib.hid (H17.out.below hb)
  have B18 := Lib.hid (up_trans B17.out hb)
  have S18 := Lib.hid (S17.out.below hb)
  have Q18 := Lib.hid (at_next Q17.out hb)
  have c18 := (cell_same (hb.block _ (World.block_lt_of_cell? _ _ c17))).trans c17
  clear hb c17 H17 B17 S17 Q17 HS1
  go_wp2_with fail
  obtain ⟨w19, hw19⟩ : ∃ w19, w18.alloc (.cells #[.int .i64 0, .int .i64 4] 3) = w19 := ⟨_, rfl⟩
  have b19 : Below w18.heap.size w18 w19 := by rw [← hw19]; exact up_alloc (Below.refl _ _) _
  have n19 : Os.At w19.heap.size w19 (some ⟨w18.heap.size, 0, none⟩) (Os.ints (nats [0, 4])) := by rw [← hw19]; exact at_new w18 (nats [0, 4])
  have HS2 := Lib.hid (sameints_any (nats [0, 4]) A2 (some ⟨w18.heap.size, 0, none⟩) cp2 2 2 2 w19 (at_next Q18.out b19) n19 (by decide) rfl rfl)
  have H19 := Lib.hid (H18.out.below b19)
  have B19 := Lib.hid (up_trans B18.out b19)
  have S19 := Lib.hid (S18.out.below b19)
  have c19 := (cell_same (b19.block _ (World.block_lt_of_cell? _ _ c18))).trans c18
  rw [hw19]
  clear hw19 b19 n19 c18 H18 S18 Q18 B18
  refine HS2.out.mono ?_
  rintro e w20 ⟨rfl, hb⟩
  have H20 := Lib.hid (H19.out.below hb)
  have B20 := Lib.hid (up_trans B19.out hb)
  have S20 := Lib.hid (S19.out.below hb)
  have c20 := (cell_same (hb.block _ (World.block_lt_of_cell? _ _ c19))).trans c19
  have HPg := Lib.hid (pages_at H20.out)
  rw [T.out.va4.2.2.2.1] at HPg
  clear hb c19 H19 B19 S19 HS2
  go_wp2_with fail
  refine HPg.out.mono ?_
  rintro e w21 ⟨A3, cp3, rfl, at3, hb⟩
  have H21 := Lib.hid (H20.out.below hb)
  have B21 := Lib.hid (up_trans B20.out hb)
  have S21 := Lib.hid (S20.out.below hb)
  have c21 := (cell_same (hb.block _ (World.block_lt_of_cell? _ _ c20))).trans c20
  have Q21 := Lib.hid at3
  have e3 : ([0] : List Nat).length = 1 := rfl
  rw [e3]
  clear hb c20 H20 B20 S20 HPg at3 e3
  go_wp2_with fail
  obtain ⟨w22, hw22⟩ : ∃ w22, w21.alloc (.cells #[.int .i64 0] 3) = w22 := ⟨_, rfl⟩
  have b22 : Below w21.heap.size w21 w22 := by rw [← hw22]; exact up_alloc (Below.refl _ _) _
  have n22 : Os.At w22.heap.size w22 (some ⟨w21.heap.size, 0, none⟩) (Os.ints (nats [0])) := by rw [← hw22]; exact at_new w21 (nats [0])
  have HS3 := Lib.hid (sameints_any (nats [0]) A3 (some ⟨w21.heap.size, 0, none⟩) cp3 1 1 1 w22 (at_next Q21.out b22) n22 (by decide) rfl rfl)
  have H22 := Lib.hid (H21.out.below b22)
  have B22 := Lib.hid (up_trans B21.out b22)
  have S22 := Lib.hid (S21.out.below b22)
  have c22 := (cell_same (b22.block _ (World.block_lt_of_cell? _ _ c21))).trans c21
  rw [hw22]
  clear hw22 b22 n22 c21 H21 S21 Q21 B21
  refine HS3.out.mono ?_
  rintro e w23 ⟨rfl, hb⟩
  have H23 := Lib.hid (H22.out.below hb)
  have B23 := Lib.hid (up_trans B22.out hb)
  have S23 := Lib.hid (S22.out.below hb)
  have c23 := (cell_same (hb.block _ (World.block_lt_of_cell? _ _ c22))).trans c22
  have HTa := Lib.hid (takenAll_any H23.out T.out.k9)
  rw [T.out.va4.2.2.2.2.1] at HTa
  clear hb c22 H22 B22 S22 HS3
  go_wp2_with fail
  refine HTa.out.mono ?_
  rintro e w24 ⟨A4, cp4, rfl, -, hb⟩
  have H24 := Lib.hid (H23.out.below hb)
  have B24 := Lib.hid (up_trans B23.out hb)
  have S24 := Lib.hid (S23.out.below hb)
  have c24 := (cell_same (hb.block _ (World.block_lt_of_cell? _ _ c23))).trans c23
  have HFr := Lib.hid (Os.free_any S24.out.sl)
  rw [HF5.out] at HFr
  have e4 : ([] : List Int).length = 0 := rfl
  rw [e4]
  clear hb c23 H23 B23 S23 HTa e4
  go_wp2_with fail
  refine HFr.out.mono ?_
  rintro e w25 ⟨rfl, hd⟩
  have hb : Below w24.heap.size w24 w25 := hd.below
  have H25 := Lib.hid (H24.out.below hb)
  have B25 := Lib.hid (up_trans B24.out hb)
  have c25 := (cell_same (hb.block _ (World.block_lt_of_cell? _ _ c24))).trans c24
  have HRd := Lib.hid (ready_is H25.out (show 15 < 16 by decide))
  rw [show 4 * 15 = 60 from rfl, show 60 + 2 = 62 from rfl, T.out.va4.2.2.2.2.2.1, T.out.va4.2.2.2.2.2.2, show (decide (([] : List Nat) ≠ []) || decide ([0] ≠ ([] : List Nat))) = true from rfl] at HRd
  clear hb hd c24 H24 B24 S24 HFr
  go_wp2_with fail
  refine HRd.out.mono ?_
  rintro e w26 ⟨rfl, hb⟩
  have H26 := Lib.hid (H25.out.below hb)
  have B26 := Lib.hid (up_trans B25.out hb)
  have c26 := (cell_same (hb.block _ (World.block_lt_of_cell? _ _ c25))).trans c25
  have HU := Lib.hid (unseal_any H26.out T.out.k9 0 (by unfold I64; omega) (by have := T.out.va6; omega))
  rw [T.out.va5.1] at HU
  clear hb c25 H25 B25 HRd
  go_wp2_with fail
  refine HU.out.mono ?_
  rintro e w27 ⟨rfl, P27, p1, p2, -, h27, f9, n9⟩
  have H27 := Lib.hid h27
  have c27 : w27.cell? ⟨x, 1, none⟩ = some (.pointer (some ⟨P27.h, 0, none⟩)) := by
    rw [p1, ← c26]
    refine cell_same (f9.block x (World.block_lt_of_cell? _ _ c26) (fun ho => (H26.out.own_kind ho).1 ?_))
    have hh := B26.out.block x KX16.out.2
    unfold kind; rw [hh]; exact KX16.out.1
  have B27 : Hid (Below w.heap.size w w27) := (up_trans B16.out B26.out).trans (f9.below O16.out (up_trans B16.out B26.out).size)
  have O27 : Hid (∀ k, Own P27 (unsealO t9 0).σ.U k → w.heap.size ≤ k) := fun k hk => by
    rcases n9 k hk with e | e
    · exact O16.out k e
    · have := (up_trans B16.out B26.out).size; omega
  have HU2 := Lib.hid (unseal_any H27.out T.out.kA 4 (by unfold I64; omega) (by have := T.out.va6; omega))
  rw [T.out.va5.2.1] at HU2
  clear p1 p2 h27 f9 n9 c26 H26 B26 HU KX16 B16 O16
  go_wp2_with fail
  refine HU2.out.mono ?_
  rintro e w28 ⟨rfl, P28, -, -, -, -, f9, -⟩
  have B28 : Below w.heap.size w w28 := B27.out.trans (f9.below O27.out B27.out.size)
  clear f9 HU2 c27 H27 B27 O27
  go_wp2_with fail
  go_ret
  exact ⟨rfl, B28⟩
end Go.Proofs.YtckcgaliphpgeaaGreatDoor.He
