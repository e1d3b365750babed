/-
  The statements' first call.
-/
import Derived.Test.YtaelfgdiboekpaaDoorNsEnv
namespace Go.Proofs.YtaelfgdiboekpaaDoor.Ns
set_option maxRecDepth 100000
open Go.RowKit
open Ce (u ldW Mem)
open Bi (Blk Drawn hasB hasB_iff hasB_not up_alloc up_drew up_trans i64_in ret_i ret_b grown_refl grown_trans grown_below)

theorem word_at {bs : List (BitVec 8)} {b c k a : Nat} (h : nx bs b c k = some a) : ldW bs (b + k * zN c) 8 = wd k a c := by
  unfold nx at h
  split at h
  · rename_i h1
    obtain ⟨_, h2, h3, h4⟩ := h1
    have := wd_un (unOk_iff.1 h2).1
    rw [h3, h4, Option.some.inj h] at this
    exact this.symm
  · cases h
theorem Begun.ev {w0 w w' : World} {q g b c n : Nat} {S : SS} {L : List Nat} {e : Ending} (h : Begun q g b c S w e w') (o : Ok b c n S L) (hb : Below w0.heap.size w0 w) (hq : w0.heap.size ≤ q ∧ w0.heap.size ≤ g) :
    ∃ s, e = .returned (.tuple #[.pointer (some ⟨s, 0, none⟩), .int .i64 0]) ∧ Ev w0 w' s q g b c S L ∧ w.heap.size ≤ s ∧ S.bs.length = n ∧ Fr g g w w' := by
  obtain ⟨s, h1, h2, h3, h4, h5⟩ := h
  have := hb.size
  exact ⟨s, h1, ⟨h2, o.rt, ⟨by omega, hq⟩, hb.trans (h5.below hq.2 hq.2 hb.size), h4⟩, h3, o.len, h5⟩
theorem a_list : tkn [] (nS 11) ++ [] = [0, 1] := by decide +kernel
theorem a_word : u (wd 0 2 11) = 7382074224234135554 := by decide +kernel
theorem a_un : unV (wd 0 2 11) = .tuple #[.int .i64 0, .int .i64 1, .int .i64 11, .bool true] := by
  have h : unOk (wd 0 2 11) = true ∧ unS (wd 0 2 11) = 0 ∧ unN (wd 0 2 11) = 2 ∧ unC (wd 0 2 11) = 11 := by decide +kernel
  unfold unV
  rw [h.1, h.2.1, h.2.2.1, h.2.2.2]; rfl
theorem a_give : gvE 0 11 [] 0 = 0 ∧ gvL 0 11 [] 0 = [0] ∧ gvE 0 11 [0] 512 = 0 ∧ gvL 0 11 [0] 512 = [1, 0] ∧ gvE 0 11 [1, 0] 512 = 19 ∧ gvL 0 11 [1, 0] 512 = [1, 0] ∧ gvE 0 11 [1, 0] 8 = 12 ∧ gvL 0 11 [1, 0] 8 = [1, 0] := by decide +kernel
theorem a_with : tkOk (nS 0) [] [0, 2, 127] = some [0, 2, 127] := by decide +kernel
theorem a_tkn : nats (tkn (tkn [0, 2, 127] (nS 0) ++ []) (nS 0)) = [0, 2, 127] ∧ (tkn (tkn [0, 2, 127] (nS 0) ++ []) (nS 0)).length = 3 ∧ (tkn [0, 2, 127] (nS 0) ++ []).length = 125 := by decide +kernel
theorem a_tk : tkV 0 11 [0, 1] = .tuple #[.int .i64 0, .int .i64 0] ∧ tkV 0 11 [1] = .tuple #[.int .i64 512, .int .i64 0] := ⟨rfl, rfl⟩
set_option maxHeartbeats 8000000 in
theorem alive_any (w : World) (hT : Tb.Tab w) : Calls Tryd.prog 9 #[] w fun e w' => e = .returned (.bool true) ∧ Below w.heap.size w w' := by
  have HT := Lib.hid hT
  obtain ⟨x1, x2, x3, x4, x5, x6, x7, x8⟩ := a_give
  obtain ⟨y1, y2, y3⟩ := a_tkn
  obtain ⟨z1, z2⟩ := a_tk
  obtain ⟨g, hg⟩ : ∃ g, w.heap.size = g := ⟨_, rfl⟩
  have HG := Lib.hid hg
  have h2 := hT.lt
  obtain ⟨w1, hw1⟩ : ∃ w1, (w.alloc (.cells (madeCells #[.int .u8 0] 2048) 5)).alloc (.cells #[.slice (some ⟨w.heap.size, 0, none⟩) 2048 2048] 98) = w1 := ⟨_, rfl⟩
  have HC := Lib.hid (Ce.new_yes 2048 (by omega) w)
  rw [hw1] at HC
  have hm1 : Mem w1 (g + 1) g (List.replicate 2048 0#8) := by rw [← hw1, ← hg]; exact Ce.Mem.made w 2048 (by omega)
  have hb1 : Below w.heap.size w w1 := by rw [← hw1]; exact up_alloc (up_alloc (Below.refl _ _) _) _
  have HN := Lib.hid ((new_yes (b := 0) (c := 11) hm1 (hT.below hb1) (by decide) (by decide +kernel) (by omega)).mono (fun e w' h => h.ev (bl_ok (by decide) (by decide) (nS 11) ⟨List.replicate 2048 0#8, 0, 0⟩ [] (Nat.le_refl _) (fun k hk => by cases hk) (ok_zero (n := 2048) (by simp))) hb1 (by omega)))
  rw [a_list] at HN
  generalize bl 0 11 [] (nS 11) ⟨List.replicate 2048 0#8, 0, 0⟩ = S0 at HN
  obtain ⟨q, hq⟩ : ∃ q, g + 1 = q := ⟨_, rfl⟩
  rw [hq] at HN
  rw [hg, hq] at HC
  have HQ := Lib.hid hq
  clear hT hg hw1 hm1 hb1 h2 hq
  go_enter Tryd.func9, Tryd.ntmps9
  go_wp2_with fail
  refine HC.out.mono ?_
  rintro e w' ⟨rfl, rfl⟩
  clear HC
  go_wp2_with fail
  refine HN.out.mono ?_
  rintro e w2 ⟨s, rfl, E1, -, n0, -⟩
  have N0 := Lib.hid n0
  clear n0
  have E1 := Lib.hid E1
  have HWd := Lib.hid (word_yes 0 2 11 w2 E1.out.tb (by decide) (by decide) (by decide))
  rw [a_word] at HWd
  clear HN
  go_wp2_with fail
  refine HWd.out.mono ?_
  rintro e w3 ⟨rfl, b3⟩
  have E2 := Lib.hid (E1.out.below b3)
  have HLd : Hid (Calls Tryd.prog 45 #[.pointer (some ⟨q, 0, none⟩), .int .i64 0, .int .i64 8] w3 fun e w' => e = .returned (.tuple #[.int .u64 7382074224234135554, .int .i64 0]) ∧ w3 = w') := by
    have h := load8 (w := w3) 0 E2.out.sb.mem (by have := E2.out.sb.bd; omega)
    obtain ⟨h1, _, e2, _, e4⟩ := E2.out.rt.step
    obtain ⟨h2, e5, _⟩ := e4.step
    subst e5
    have := word_at e2
    rw [show 0 + 0 * zN 11 = 0 from rfl] at this
    rw [this, a_word] at h
    exact h
  clear b3 HWd E1
  go_wp2_with fail
  refine HLd.out.mono ?_
  rintro e w' ⟨rfl, rfl⟩
  have H1 := Lib.hid (ev_take E2.out)
  rw [z1] at H1
  clear HLd
  go_wp2_with fail
  refine H1.out.mono ?_
  rintro e w4 ⟨rfl, S1, n1, E3, -⟩
  have N1 : Hid (S1.bs.length = 2048) := by show _ = _; rw [n1]; exact N0.out
  clear n1
  have E3 := Lib.hid (show Ev w w4 s q g 0 11 S1 [1] from E3)
  have H2 := Lib.hid (ev_take E3.out)
  rw [z2] at H2
  clear H1 E2
  go_wp2_with fail
  refine H2.out.mono ?_
  rintro e w5 ⟨rfl, S2, n2, E4, -⟩
  have N2 : Hid (S2.bs.length = 2048) := by show _ = _; rw [n2]; exact N1.out
  clear n2
  have E4 := Lib.hid (show Ev w w5 s q g 0 11 S2 [] from E4)
  have H3 := Lib.hid (ev_take E4.out)
  rw [show tkV 0 11 [] = .tuple #[.int .i64 (-1), .int .i64 18] from rfl] at H3
  clear H2 E3
  go_wp2_with fail
  refine H3.out.mono ?_
  rintro e w6 ⟨rfl, S3, n3, E5, -⟩
  have N3 : Hid (S3.bs.length = 2048) := by show _ = _; rw [n3]; exact N2.out
  clear n3
  have E5 := Lib.hid (show Ev w w6 s q g 0 11 S3 [] from E5)
  have H4 := Lib.hid (ev_give 0 (by unfold I64; omega) E5.out)
  rw [x1, x2] at H4
  clear H3 E4
  go_wp2_with fail
  refine H4.out.mono ?_
  rintro e w7 ⟨rfl, E6, -⟩
  have E6 := Lib.hid E6
  have n4 := (gvS_len (L := []) (x := 0) (by decide : 11 < 12) E5.out.sb.fit).trans N3.out
  generalize gvS 0 11 S3 [] 0 = S4 at E6 n4
  have N4 := Lib.hid n4
  clear n4
  have H5 := Lib.hid (ev_give 512 (by unfold I64; omega) E6.out)
  rw [x3, x4] at H5
  clear H4 E5
  go_wp2_with fail
  refine H5.out.mono ?_
  rintro e w8 ⟨rfl, E7, -⟩
  have E7 := Lib.hid E7
  have n5 := (gvS_len (L := [0]) (x := 512) (by decide : 11 < 12) E6.out.sb.fit).trans N4.out
  generalize gvS 0 11 S4 [0] 512 = S5 at E7 n5
  have N5 := Lib.hid n5
  clear n5
  have H6 := Lib.hid (ev_give 512 (by unfold I64; omega) E7.out)
  rw [x5, x6] at H6
  clear H5 E6
  go_wp2_with fail
  refine H6.out.mono ?_
  rintro e w9 ⟨rfl, E8, -⟩
  have E8 := Lib.hid E8
  have n6 := (gvS_len (L := [1, 0]) (x := 512) (by decide : 11 < 12) E7.out.sb.fit).trans N5.out
  generalize gvS 0 11 S5 [1, 0] 512 = S6 at E8 n6
  have N6 := Lib.hid n6
  clear n6
  have H7 := Lib.hid (ev_give 8 (by unfold I64; omega) E8.out)
  rw [x7, x8] at H7
  clear H6 E7
  go_wp2_with fail
  refine H7.out.mono ?_
  rintro e wA ⟨rfl, E9, -⟩
  have E9 := Lib.hid E9
  have n7 := (gvS_len (L := [1, 0]) (x := 8) (by decide : 11 < 12) E8.out.sb.fit).trans N6.out
  generalize gvS 0 11 S6 [1, 0] 8 = S7 at E9 n7
  have N7 := Lib.hid n7
  clear n7
  have H8 := Lib.hid (list_yes E9.out.sb E9.out.tb E9.out.rt)
  rw [show ([1, 0] : List Nat).length = 2 from rfl, show nats [1, 0] = [1, 0] from rfl] at H8
  clear H7 E8
  go_wp2_with fail
  refine H8.out.mono ?_
  rintro e wB ⟨⟨A1, cap1, rfl, l1⟩, bB⟩
  have L1 := Lib.hid l1
  have EA := Lib.hid (E9.out.below bB)
  have H9 := Lib.hid (unword_any (wd 0 2 11) wB EA.out.tb)
  rw [a_word, a_un] at H9
  clear l1 bB H8 E9
  go_wp2_with fail
  refine H9.out.mono ?_
  rintro e wC ⟨rfl, bC⟩
  have L2 := Lib.hid (L1.out.below bC)
  have EB := Lib.hid (EA.out.below bC)
  clear bC H9 EA L1
  have bD : Below wC.heap.size wC (wC.alloc (.cells #[.int .i64 0, .int .i64 2, .int .i64 127] 3)) := up_alloc (Below.refl _ _) _
  have EC := Lib.hid (EB.out.below bD)
  have L3 := Lib.hid (L2.out.below bD)
  have LT : Li (wC.alloc (.cells #[.int .i64 0, .int .i64 2, .int .i64 127] 3)) (some ⟨wC.heap.size, 0, none⟩) [0, 2, 127] := li_new wC [0, 2, 127]
  have hSl := N7.out
  have HW := Lib.hid ((with_head (b := 1024) (c := 0) (cap := 3) (n := 3) EC.out.sb.mem EC.out.tb (by decide) (by rw [hSl]; decide +kernel) ⟨EC.out.sb.pos.2.1, EC.out.sb.pos.2.2⟩ LT.1 rfl (by omega)).mono (fun e w' h => show ∃ t S, e = .returned (.tuple #[.pointer (some ⟨t, 0, none⟩), .int .i64 0]) ∧ Ev w w' t q g 1024 0 S (tkn [0, 2, 127] (nS 0) ++ []) ∧ Fr g g (wC.alloc (.cells #[.int .i64 0, .int .i64 2, .int .i64 127] 3)) w' from by
    rw [a_with] at h
    rcases h with ⟨h, _⟩ | ⟨xs, hx, hb⟩
    · cases h
    · cases hx
      obtain ⟨t, h1, h2, _, _, h3⟩ := hb.ev (bl_ok (n := 2048) (by decide) (by omega) (nS 0) ⟨S7.bs, 0, 0⟩ [] (Nat.le_refl _) (fun k hk => by cases hk) (ok_zero hSl)) EC.out.bel ⟨EC.out.ns.2.1, EC.out.ns.2.2⟩
      exact ⟨t, _, h1, h2, h3⟩))
  clear hSl LT L2 EB bD
  go_wp2_with fail
  refine HW.out.mono ?_
  rintro e wE ⟨t, S8, rfl, E, fE⟩
  have EE := Lib.hid E
  have LE : Hid (Li wE A1 [1, 0]) := L3.out.fr fE EC.out.sb.kinds.2.2 EC.out.sb.kinds.2.2 (by decide) (by decide)
  have hsb : wE.heap[s]? = (wC.alloc (.cells #[.int .i64 0, .int .i64 2, .int .i64 127] 3)).heap[s]? := fE.block s EC.out.sb.lt.1 (kne EC.out.sb.kinds.1 EC.out.sb.kinds.2.2 (by decide)) (kne EC.out.sb.kinds.1 EC.out.sb.kinds.2.2 (by decide))
  have hhd : S7.h = 2 := EC.out.rt.1.1
  have BS : Hid (Blk wE s [.pointer (some ⟨q, 0, none⟩), .int .i64 ((0 : Nat) : Int), .int .i64 ((11 : Nat) : Int), .int .i64 1, .int .i64 (S7.f : Int)] 102) := by
    have := EC.out.sb.blk.of hsb
    rw [hhd] at this
    exact this
  generalize tkn [0, 2, 127] (nS 0) ++ [] = L8 at *
  have HTk := Lib.hid (taken_yes EE.out.sb EE.out.tb EE.out.rt)
  rw [y1, y2] at HTk
  clear E fE HW L3 EC hsb hhd
  go_wp2_with fail
  refine HTk.out.mono ?_
  rintro e wF ⟨⟨A2, cap2, rfl, l2⟩, bF⟩
  have L4 := Lib.hid l2
  have EF := Lib.hid (EE.out.below bF)
  have LF := Lib.hid (LE.out.below bF)
  have BF := Lib.hid (BS.out.below bF)
  clear l2 bF HTk EE LE BS
  -- the long question
  have bG : Below wF.heap.size wF (wF.alloc (.cells #[.int .i64 1, .int .i64 0] 3)) := up_alloc (Below.refl _ _) _
  have EG := Lib.hid (EF.out.below bG)
  have L5 := Lib.hid (L4.out.below bG)
  have BG := Lib.hid (BF.out.below bG)
  have HSI := Lib.hid (sameints_any [1, 0] A1 (some ⟨wF.heap.size, 0, none⟩) cap1 2 2 2 _ (LF.out.below bG) (li_new wF [1, 0]) (by decide) rfl rfl)
  clear bG EF LF BF L4
  go_wp2_with fail
  refine HSI.out.mono ?_
  rintro e wH ⟨rfl, bH⟩
  have EH := Lib.hid (EG.out.below bH)
  have L6 := Lib.hid (L5.out.below bH)
  have BH := Lib.hid (BG.out.below bH)
  have r3 : wH.cell? ⟨s, 3, none⟩ = some (.int .i64 1) := BH.out.cell
  clear bH HSI EG L5 BG
  have HHd : Hid (Calls Tryd.prog 41 #[.pointer (some ⟨s, 0, none⟩)] wH fun e w' => e = .returned (.int .i64 1) ∧ wH = w') := by
    clear EH L6 BH
    go_enter Tryd.func41, Tryd.ntmps41
    go_wp2
    go_ret
    exact ⟨rfl, rfl⟩
  clear r3 BH
  have bI : Below wH.heap.size wH (wH.alloc (.cells #[.int .i64 0, .int .i64 2, .int .i64 127] 3)) := up_alloc (Below.refl _ _) _
  have EI := Lib.hid (EH.out.below bI)
  have HSJ := Lib.hid (sameints_any [0, 2, 127] A2 (some ⟨wH.heap.size, 0, none⟩) cap2 3 3 3 _ (L6.out.below bI) (li_new wH [0, 2, 127]) (by decide) rfl rfl)
  clear bI EH L6
  go_wp2_with (go_at_call 41; refine HHd.out.mono ?_; rintro e w' ⟨rfl, rfl⟩)
  refine HSJ.out.mono ?_
  rintro e wJ ⟨rfl, bJ⟩
  have EJ := Lib.hid (EI.out.below bJ)
  clear bJ HSJ EI HHd
  have hf : S8.f = 125 := by rw [← y3]; exact EJ.out.rt.2.symm
  have K1 := Lib.hid (free_any EJ.out.sb)
  have K2 := Lib.hid (state_any EJ.out.sb EJ.out.tb)
  have K3 := Lib.hid (size_any EJ.out.sb EJ.out.tb)
  have K4 := Lib.hid (slots_any EJ.out.sb EJ.out.tb)
  have K5 := Lib.hid (check_yes EJ.out.sb EJ.out.tb EJ.out.rt)
  rw [hf] at K1 K2
  rw [show stI (nS 0) 125 = 1 from by decide +kernel] at K2
  rw [show ((zN 0 : Nat) : Int) = 8 from rfl] at K3
  rw [show ((nS 0 : Nat) : Int) = 128 from by decide +kernel] at K4
  clear hf
  go_wp2_with (first
    | (go_at_call 32; refine K1.out.mono ?_; rintro e w' ⟨rfl, rfl⟩)
    | (go_at_call 42; refine K2.out.mono ?_; rintro e w' ⟨rfl, rfl⟩)
    | (go_at_call 29; refine K3.out.mono ?_; rintro e w' ⟨rfl, rfl⟩)
    | (go_at_call 28; refine K4.out.mono ?_; rintro e w' ⟨rfl, rfl⟩))
  refine K5.out.mono ?_
  rintro e wK ⟨rfl, bK⟩
  have EK := Lib.hid (EJ.out.below bK)
  have K6 := Lib.hid (base_any EK.out.sb)
  have K7 := Lib.hid (class_any EK.out.sb)
  clear bK K1 K2 K3 K4 K5 EJ
  go_wp2_with (first
    | (go_at_call 38; refine K6.out.mono ?_; rintro e w' ⟨rfl, rfl⟩)
    | (go_at_call 39; refine K7.out.mono ?_; rintro e w' ⟨rfl, rfl⟩))
  go_ret
  exact ⟨rfl, EK.out.bel⟩
end Go.Proofs.YtaelfgdiboekpaaDoor.Ns
