import Derived.Test.YtaelfgdiboekpaaDoorNsRF
import Derived.Test.YtaelfgdiboekpaaDoorNsTaken
import Derived.Test.YtaelfgdiboekpaaDoorNsAlive
/-
  Where program and document agree: contracts that the claimed proof uses.
-/
namespace Go.Proofs.YtaelfgdiboekpaaDoor.Ns
set_option maxRecDepth 100000
open Go.RowKit
open Ce (u y ldW Mem row)
open Bi (Blk Drawn hasB hasB_iff hasB_not up_alloc up_drew up_trans i64_in ret_i ret_b grown_refl grown_trans grown_below)

section
variable {w w' : World} {r m gm cap b c B s q g h f : Nat} {S S' : SS} {L : List Nat} {bs : List (BitVec 8)}
set_option maxHeartbeats 8000000 in
theorem agree_yes (x : Rf w r m gm cap S.bs b c S.h S.f) (sb : Sb w s q g S.bs b c S.h S.f) (hT : Tb.Tab w) (hr : Rt (nx S.bs b c) S.h S.f L) :
    Calls Tryd.prog 20 #[.pointer (some ⟨q, 0, none⟩), .pointer (some ⟨s, 0, none⟩), .pointer (some ⟨r, 0, none⟩)] w fun e w' => e = .returned (.bool true) ∧ Below w.heap.size w w' := by
  have HX := Lib.hid x
  have HSb := Lib.hid sb
  have HT := Lib.hid hT
  have HLen := Lib.hid (Ce.len_any q g S.bs.length w sb.mem.cell)
  have HRead : Hid (Calls Tryd.prog 18 #[.pointer (some ⟨q, 0, none⟩), .int .i64 0, .int .i64 (S.bs.length : Int)] w fun e w' => ∃ gr cp, e = .returned (.tuple #[.slice (some ⟨gr, 0, none⟩) S.bs.length cp, .int .i64 0]) ∧ Ce.BA w'.heap.size w' (some ⟨gr, 0, none⟩) S.bs ∧ Below w.heap.size w w') := (Ce.read_yes q g S.bs 0 S.bs.length w sb.mem (by omega)).mono fun e w' h => by
    obtain ⟨h1, h2, h3⟩ := h
    rw [Ce.sub_all] at h1 h2
    exact ⟨_, _, h1, fun _ => ⟨_, 0, rfl, h2.lt, fun j hj => by rw [Nat.zero_add]; exact h2.cell hj⟩, h3⟩
  have HLi : Hid (∀ V : World, Below w.heap.size w V → _) := fun V hV => list_yes (sb.below hV) (hT.below hV) hr
  have HRl : Hid (∀ V : World, Below w.heap.size w V → _) := fun V hV => rlist_yes (x.below hV) hr
  have HTk : Hid (∀ V : World, Below w.heap.size w V → _) := fun V hV => taken_yes (sb.below hV) (hT.below hV) hr
  have HRt : Hid (∀ V : World, Below w.heap.size w V → _) := fun V hV => rtaken_yes (x.below hV) hr
  have HCk : Hid (∀ V : World, Below w.heap.size w V → Calls Tryd.prog 43 #[.pointer (some ⟨s, 0, none⟩)] V fun e w' => e = .returned (.int .i64 0) ∧ Below V.heap.size V w') := fun V hV => check_yes (sb.below hV) (hT.below hV) hr
  have hLl : L.length ≤ 1048576 := by have := hr.2; have := x.hf; have := (cls c x.hc).2.2.2.1; omega
  have hTl : (tkn L (nS c)).length ≤ 1048576 := by have := tkn_le L (nS c); have := (cls c x.hc).2.2.2.1; omega
  obtain ⟨nL, hnL⟩ : ∃ nL, L.length = nL := ⟨_, rfl⟩
  obtain ⟨nT, hnT⟩ : ∃ nT, (tkn L (nS c)).length = nT := ⟨_, rfl⟩
  have HnL := Lib.hid hnL
  have HnT := Lib.hid hnT
  rw [hnL] at hLl
  rw [hnT] at hTl
  simp only [hnL] at HLi HRl
  simp only [hnT] at HTk HRt
  clear hnL hnT
  have hbl := x.len
  obtain ⟨N, hN⟩ : ∃ N, S.bs.length = N := ⟨_, rfl⟩
  have HN := Lib.hid hN
  rw [hN] at HLen HRead hbl
  have hmb := x.mblk
  rw [hN] at hmb
  have HMb := Lib.hid hmb
  clear x sb hT hr hN hmb
  go_enter Tryd.func20, Tryd.ntmps20
  go_wp2_with fail
  refine HLen.out.mono ?_
  rintro e w' ⟨rfl, rfl⟩
  clear HLen
  go_wp2_with fail
  refine HRead.out.mono ?_
  rintro e w1 ⟨gr, cr, rfl, hba, b1⟩
  have B1 := Lib.hid b1
  have HBa1 := Lib.hid hba
  have HLi1 := Lib.hid (HLi.out w1 b1)
  clear b1 hba HRead HLi
  go_wp2_with fail
  refine HLi1.out.mono ?_
  rintro e w2 ⟨⟨A1, c1, rfl, l1⟩, b2⟩
  have B2 := Lib.hid (up_trans B1.out b2)
  have HBa2 : Hid (Ce.BA w2.heap.size w2 (some ⟨gr, 0, none⟩) S.bs) := (HBa1.out.below b2).more b2.size
  have HL1 := Lib.hid l1
  have HRl1 := Lib.hid (HRl.out w2 B2.out)
  clear b2 l1 HLi1 HRl HBa1 B1
  go_wp2_with fail
  refine HRl1.out.mono ?_
  rintro e w3 ⟨⟨A2, c2, rfl, l2⟩, b3⟩
  have B3 := Lib.hid (up_trans B2.out b3)
  have HBa3 : Hid (Ce.BA w3.heap.size w3 (some ⟨gr, 0, none⟩) S.bs) := (HBa2.out.below b3).more b3.size
  have HL13 := Lib.hid (HL1.out.below b3)
  have HL2 := Lib.hid l2
  have HTk1 := Lib.hid (HTk.out w3 B3.out)
  clear b3 l2 HRl1 HTk HBa2 B2 HL1
  go_wp2_with fail
  refine HTk1.out.mono ?_
  rintro e w4 ⟨⟨A3, c3, rfl, l3⟩, b4⟩
  have B4 := Lib.hid (up_trans B3.out b4)
  have HBa4 : Hid (Ce.BA w4.heap.size w4 (some ⟨gr, 0, none⟩) S.bs) := (HBa3.out.below b4).more b4.size
  have HL14 := Lib.hid (HL13.out.below b4)
  have HL24 := Lib.hid (HL2.out.below b4)
  have HL3 := Lib.hid l3
  have HRt1 := Lib.hid (HRt.out w4 B4.out)
  clear b4 l3 HTk1 HRt HBa3 B3 HL13 HL2
  go_wp2_with fail
  refine HRt1.out.mono ?_
  rintro e w5 ⟨⟨A4, c4, rfl, l4⟩, b5⟩
  have B5 := Lib.hid (up_trans B4.out b5)
  have HBa5 : Hid (Ce.BA w5.heap.size w5 (some ⟨gr, 0, none⟩) S.bs) := (HBa4.out.below b5).more b5.size
  have HL15 := Lib.hid (HL14.out.below b5)
  have HL25 := Lib.hid (HL24.out.below b5)
  have HL35 := Lib.hid (HL3.out.below b5)
  have HL45 := Lib.hid l4
  clear b5 l4 HRt1 HBa4 B4 HL14 HL24 HL3
  go_wp2_with fail
  refine region_in (fun W => Below w5.heap.size w5 W) (by kernel_rfl) (lexB_of (by kernel_rfl) (by kernel_rfl)) (Below.refl _ w5).drew ?_
  intro ι ine fw hS hT9
  have HSS := Lib.hid hS
  have HXn : Hid (∀ n, Rf (fw n) r m gm cap S.bs b c S.h S.f) := fun n => HX.out.below (up_trans B5.out (HSS.out n))
  have HSn : Hid (∀ n, Sb (fw n) s q g S.bs b c S.h S.f) := fun n => HSb.out.below (up_trans B5.out (HSS.out n))
  have HTn : Hid (∀ n, Tb.Tab (fw n)) := fun n => HT.out.below (up_trans B5.out (HSS.out n))
  have s0 := fun n => (HXn.out n).r0
  have s1 := fun n => (HXn.out n).r1
  have s2 := fun n => (HXn.out n).r2
  have s3 := fun n => (HXn.out n).r3
  have s4 := fun n => (HXn.out n).r4
  have s5 : ∀ n, (fw n).cell? ⟨m, 0, none⟩ = some (.slice (some ⟨gm, 0, none⟩) N cap) := fun n => by have := (HXn.out n).m0; rw [HN.out] at this; exact this
  have K19 : Hid (∀ n, Calls Tryd.prog 19 #[.slice (some ⟨gr, 0, none⟩) N cr, .slice (some ⟨gm, 0, none⟩) N cap] (fw n) fun e w' => e = .returned (.bool true) ∧ ∃ j, w' = fw j) := fun n => by have z := Ce.same_yes (some ⟨gr, 0, none⟩) (some ⟨gm, 0, none⟩) S.bs cr cap _ _ (fw n) ((HBa5.out.below (HSS.out n)).more (HSS.out n).size) (HXn.out n).ba (by rw [HN.out]; exact hbl); rw [HN.out] at z; exact z.mono fun e w' ⟨he, hb⟩ => ⟨he, hT9 w' (by obtain ⟨j, rfl⟩ := hb; exact up_drew (HSS.out n) j)⟩
  have K43 : Hid (∀ n, Calls Tryd.prog 43 #[.pointer (some ⟨s, 0, none⟩)] (fw n) fun e w' => e = .returned (.int .i64 0) ∧ ∃ j, w' = fw j) := fun n => (HCk.out _ (up_trans B5.out (HSS.out n))).mono fun e w' ⟨he, hb⟩ => ⟨he, hT9 w' (up_trans (HSS.out n) hb)⟩
  have K23a : Hid (∀ n, Calls Tryd.prog 23 #[.slice A1 nL c1, .slice A2 nL c2] (fw n) fun e w' => e = .returned (.bool true) ∧ ∃ j, w' = fw j) := fun n => (sameints_any (nats L) A1 A2 c1 c2 nL nL (fw n) (HL15.out.below (HSS.out n)) (HL25.out.below (HSS.out n)) (by rw [nats_len, HnL.out]; exact hLl) (by rw [nats_len, HnL.out]) (by rw [nats_len, HnL.out])).mono fun e w' ⟨he, hb⟩ => ⟨he, hT9 w' (up_trans (HSS.out n) hb)⟩
  have K23b : Hid (∀ n, Calls Tryd.prog 23 #[.slice A3 nT c3, .slice A4 nT c4] (fw n) fun e w' => e = .returned (.bool true) ∧ ∃ j, w' = fw j) := fun n => (sameints_any (nats (tkn L (nS c))) A3 A4 c3 c4 nT nT (fw n) (HL35.out.below (HSS.out n)) (HL45.out.below (HSS.out n)) (by rw [nats_len, HnT.out]; exact hTl) (by rw [nats_len, HnT.out]) (by rw [nats_len, HnT.out])).mono fun e w' ⟨he, hb⟩ => ⟨he, hT9 w' (up_trans (HSS.out n) hb)⟩
  have K41 : Hid (∀ n, Calls Tryd.prog 41 #[.pointer (some ⟨s, 0, none⟩)] (fw n) fun e w' => e = .returned (.int .i64 ((S.h : Int) - 1)) ∧ ∃ j, w' = fw j) := fun n => (head_any (HSn.out n)).mono fun e w' ⟨he, hb⟩ => ⟨he, ⟨n, hb.symm⟩⟩
  have K32 : Hid (∀ n, Calls Tryd.prog 32 #[.pointer (some ⟨s, 0, none⟩)] (fw n) fun e w' => e = .returned (.int .i64 (S.f : Int)) ∧ ∃ j, w' = fw j) := fun n => (free_any (HSn.out n)).mono fun e w' ⟨he, hb⟩ => ⟨he, ⟨n, hb.symm⟩⟩
  have K42 : Hid (∀ n, Calls Tryd.prog 42 #[.pointer (some ⟨s, 0, none⟩)] (fw n) fun e w' => e = .returned (.int .i64 (stI (nS c) S.f)) ∧ ∃ j, w' = fw j) := fun n => (state_any (HSn.out n) (HTn.out n)).mono fun e w' ⟨he, hb⟩ => ⟨he, ⟨n, hb.symm⟩⟩
  have K65 : Hid (∀ n, Calls Tryd.prog 65 #[.pointer (some ⟨r, 0, none⟩)] (fw n) fun e w' => e = .returned (.int .i64 (stI (nS c) S.f)) ∧ ∃ j, w' = fw j) := fun n => (rstate_any (HXn.out n)).mono fun e w' ⟨he, hb⟩ => ⟨he, hT9 w' (up_trans (HSS.out n) hb)⟩
  have K38 : Hid (∀ n, Calls Tryd.prog 38 #[.pointer (some ⟨s, 0, none⟩)] (fw n) fun e w' => e = .returned (.int .i64 (b : Int)) ∧ ∃ j, w' = fw j) := fun n => (base_any (HSn.out n)).mono fun e w' ⟨he, hb⟩ => ⟨he, ⟨n, hb.symm⟩⟩
  have K39 : Hid (∀ n, Calls Tryd.prog 39 #[.pointer (some ⟨s, 0, none⟩)] (fw n) fun e w' => e = .returned (.int .i64 (c : Int)) ∧ ∃ j, w' = fw j) := fun n => (class_any (HSn.out n)).mono fun e w' ⟨he, hb⟩ => ⟨he, ⟨n, hb.symm⟩⟩
  have K29 : Hid (∀ n, Calls Tryd.prog 29 #[.pointer (some ⟨s, 0, none⟩)] (fw n) fun e w' => e = .returned (.int .i64 (zN c : Int)) ∧ ∃ j, w' = fw j) := fun n => (size_any (HSn.out n) (HTn.out n)).mono fun e w' ⟨he, hb⟩ => ⟨he, ⟨n, hb.symm⟩⟩
  have K66 : Hid (∀ n, Calls Tryd.prog 66 #[.pointer (some ⟨r, 0, none⟩)] (fw n) fun e w' => e = .returned (.int .i64 (zN c : Int)) ∧ ∃ j, w' = fw j) := fun n => (rsize_any (HXn.out n)).mono fun e w' ⟨he, hb⟩ => ⟨he, hT9 w' (up_trans (HSS.out n) hb)⟩
  have K28 : Hid (∀ n, Calls Tryd.prog 28 #[.pointer (some ⟨s, 0, none⟩)] (fw n) fun e w' => e = .returned (.int .i64 (nS c : Int)) ∧ ∃ j, w' = fw j) := fun n => (slots_any (HSn.out n) (HTn.out n)).mono fun e w' ⟨he, hb⟩ => ⟨he, ⟨n, hb.symm⟩⟩
  have K59 : Hid (∀ n, Calls Tryd.prog 59 #[.pointer (some ⟨r, 0, none⟩)] (fw n) fun e w' => e = .returned (.int .i64 (nS c : Int)) ∧ ∃ j, w' = fw j) := fun n => (rslots_any (HXn.out n)).mono fun e w' ⟨he, hb⟩ => ⟨he, hT9 w' (up_trans (HSS.out n) hb)⟩
  clear hS hT9
  simp only [List.cons_append, List.nil_append, List.append_eq]
  generalize stI (nS c) S.f = st at *
  generalize ((S.h : Int) - 1) = hh at *
  clear HXn HSn HTn HX HSb HT HCk HBa5 HMb
  generalize nS c = nn at *
  generalize zN c = zz at *
  generalize S.f = ff at *
  have E1 : (hh == hh) = true := by simp
  have E2 : ((ff : Int) == (ff : Int)) = true := by simp
  have E3 : (st == st) = true := by simp
  have E4 : ((b : Int) == (b : Int)) = true := by simp
  have E5 : ((c : Int) == (c : Int)) = true := by simp
  have E6 : ((zz : Int) == (zz : Int)) = true := by simp
  have E7 : ((nn : Int) == (nn : Int)) = true := by simp
  have K23 : Hid (∀ (n : ι) (A B : Option Addr) (k c d : Nat), ((A = A1 ∧ k = nL ∧ c = c1 ∧ B = A2 ∧ d = c2) ∨ (A = A3 ∧ k = nT ∧ c = c3 ∧ B = A4 ∧ d = c4)) → Calls Tryd.prog 23 #[.slice A k c, .slice B k d] (fw n) fun e w' => e = .returned (.bool true) ∧ ∃ j, w' = fw j) := fun n A B k c d h => by
    rcases h with ⟨rfl, rfl, rfl, rfl, rfl⟩ | ⟨rfl, rfl, rfl, rfl, rfl⟩
    · exact K23a.out n
    · exact K23b.out n
  clear K23a K23b
  repeat (go_big_quiet_step ((first | (go_at_call 19; exact K19.out _) | (go_at_call 43; exact K43.out _) | (go_at_call 41; exact K41.out _) | (go_at_call 32; exact K32.out _) | (go_at_call 42; exact K42.out _) | (go_at_call 65; exact K65.out _) | (go_at_call 38; exact K38.out _) | (go_at_call 39; exact K39.out _) | (go_at_call 29; exact K29.out _) | (go_at_call 66; exact K66.out _) | (go_at_call 28; exact K28.out _) | (go_at_call 59; exact K59.out _) | (go_at_call 23; refine K23.out _ _ _ _ _ _ ?_; first | exact .inl ⟨rfl, rfl, rfl, rfl, rfl⟩ | exact .inr ⟨rfl, rfl, rfl, rfl, rfl⟩))))
  refine wpQuiet_nil ?_
  rintro _ ⟨n1, rfl⟩
  have B9 := Lib.hid (up_trans B5.out (HSS.out n1))
  clear s0 s1 s2 s3 s4 s5 E1 E2 E3 E4 E5 E6 E7
  go_wp2_with fail
  go_ret
  exact ⟨rfl, B9.out⟩
end
end Go.Proofs.YtaelfgdiboekpaaDoor.Ns

/-
  Where program and document agree: contracts that the claimed proof uses.
-/
namespace Go.Proofs.YtaelfgdiboekpaaDoor.Ns
set_option maxRecDepth 100000
open Go.RowKit
open Ce (u y ldW Mem row)
open Bi (Blk Drawn hasB hasB_iff hasB_not up_alloc up_drew up_trans i64_in ret_i ret_b grown_refl grown_trans grown_below)

section
variable {w w' : World} {r m gm cap b c B s q g h f : Nat} {S S' : SS} {L : List Nat} {bs : List (BitVec 8)}
set_option maxHeartbeats 8000000 in
theorem agree_no (x : Rf w r m gm cap S.bs b c S.h S.f) (sb : Sb w s q g S.bs b c S.h S.f) (hT : Tb.Tab w) (hr : ¬ ∃ L, Rt (nx S.bs b c) S.h S.f L) :
    Calls Tryd.prog 20 #[.pointer (some ⟨q, 0, none⟩), .pointer (some ⟨s, 0, none⟩), .pointer (some ⟨r, 0, none⟩)] w fun e w' => e = .returned (.bool true) ∧ Below w.heap.size w w' := by
  have HX := Lib.hid x
  have HSb := Lib.hid sb
  have HT := Lib.hid hT
  have HLen := Lib.hid (Ce.len_any q g S.bs.length w sb.mem.cell)
  have HRead : Hid (Calls Tryd.prog 18 #[.pointer (some ⟨q, 0, none⟩), .int .i64 0, .int .i64 (S.bs.length : Int)] w fun e w' => ∃ gr cp, e = .returned (.tuple #[.slice (some ⟨gr, 0, none⟩) S.bs.length cp, .int .i64 0]) ∧ Ce.BA w'.heap.size w' (some ⟨gr, 0, none⟩) S.bs ∧ Below w.heap.size w w') := (Ce.read_yes q g S.bs 0 S.bs.length w sb.mem (by omega)).mono fun e w' h => by
    obtain ⟨h1, h2, h3⟩ := h
    rw [Ce.sub_all] at h1 h2
    exact ⟨_, _, h1, fun _ => ⟨_, 0, rfl, h2.lt, fun j hj => by rw [Nat.zero_add]; exact h2.cell hj⟩, h3⟩
  have HLi : Hid (∀ V : World, Below w.heap.size w V → _) := fun V hV => list_no (sb.below hV) (hT.below hV) hr
  have HRl : Hid (∀ V : World, Below w.heap.size w V → _) := fun V hV => rlist_no (x.below hV) hr
  have HTk : Hid (∀ V : World, Below w.heap.size w V → _) := fun V hV => taken_no (sb.below hV) (hT.below hV) hr
  have HRt : Hid (∀ V : World, Below w.heap.size w V → _) := fun V hV => rtaken_no (x.below hV) hr
  have HCk : Hid (∀ V : World, Below w.heap.size w V → Calls Tryd.prog 43 #[.pointer (some ⟨s, 0, none⟩)] V fun e w' => e = .returned (.int .i64 10) ∧ Below V.heap.size V w') := fun V hV => check_no (sb.below hV) (hT.below hV) hr
  have hbl := x.len
  obtain ⟨N, hN⟩ : ∃ N, S.bs.length = N := ⟨_, rfl⟩
  have HN := Lib.hid hN
  rw [hN] at HLen HRead hbl
  have hmb := x.mblk
  rw [hN] at hmb
  have HMb := Lib.hid hmb
  clear x sb hT hr hN hmb
  go_enter Tryd.func20, Tryd.ntmps20
  go_wp2_with fail
  refine HLen.out.mono ?_
  rintro e w' ⟨rfl, rfl⟩
  clear HLen
  go_wp2_with fail
  refine HRead.out.mono ?_
  rintro e w1 ⟨gr, cr, rfl, hba, b1⟩
  have B1 := Lib.hid b1
  have HBa1 := Lib.hid hba
  have HLi1 := Lib.hid (HLi.out w1 b1)
  clear b1 hba HRead HLi
  go_wp2_with fail
  refine HLi1.out.mono ?_
  rintro e w2 ⟨rfl, b2⟩
  have B2 := Lib.hid (up_trans B1.out b2)
  have HBa2 : Hid (Ce.BA w2.heap.size w2 (some ⟨gr, 0, none⟩) S.bs) := (HBa1.out.below b2).more b2.size
  have HRl1 := Lib.hid (HRl.out w2 B2.out)
  clear b2 HLi1 HRl HBa1 B1
  go_wp2_with fail
  refine HRl1.out.mono ?_
  rintro e w3 ⟨⟨A2, n2, c2, rfl⟩, b3⟩
  have B3 := Lib.hid (up_trans B2.out b3)
  have HBa3 : Hid (Ce.BA w3.heap.size w3 (some ⟨gr, 0, none⟩) S.bs) := (HBa2.out.below b3).more b3.size
  have HTk1 := Lib.hid (HTk.out w3 B3.out)
  clear b3 HRl1 HTk HBa2 B2
  go_wp2_with fail
  refine HTk1.out.mono ?_
  rintro e w4 ⟨rfl, b4⟩
  have B4 := Lib.hid (up_trans B3.out b4)
  have HBa4 : Hid (Ce.BA w4.heap.size w4 (some ⟨gr, 0, none⟩) S.bs) := (HBa3.out.below b4).more b4.size
  have HRt1 := Lib.hid (HRt.out w4 B4.out)
  clear b4 HTk1 HRt HBa3 B3
  go_wp2_with fail
  refine HRt1.out.mono ?_
  rintro e w5 ⟨rfl, b5⟩
  have B5 := Lib.hid (up_trans B4.out b5)
  have HBa5 : Hid (Ce.BA w5.heap.size w5 (some ⟨gr, 0, none⟩) S.bs) := (HBa4.out.below b5).more b5.size
  clear b5 HRt1 HBa4 B4
  go_wp2_with fail
  refine region_in (fun W => Below w5.heap.size w5 W) (by kernel_rfl) (lexB_of (by kernel_rfl) (by kernel_rfl)) (Below.refl _ w5).drew ?_
  intro ι ine fw hS hT9
  have HSS := Lib.hid hS
  have HXn : Hid (∀ n, Rf (fw n) r m gm cap S.bs b c S.h S.f) := fun n => HX.out.below (up_trans B5.out (HSS.out n))
  have HSn : Hid (∀ n, Sb (fw n) s q g S.bs b c S.h S.f) := fun n => HSb.out.below (up_trans B5.out (HSS.out n))
  have HTn : Hid (∀ n, Tb.Tab (fw n)) := fun n => HT.out.below (up_trans B5.out (HSS.out n))
  have s0 := fun n => (HXn.out n).r0
  have s1 := fun n => (HXn.out n).r1
  have s2 := fun n => (HXn.out n).r2
  have s3 := fun n => (HXn.out n).r3
  have s4 := fun n => (HXn.out n).r4
  have s5 : ∀ n, (fw n).cell? ⟨m, 0, none⟩ = some (.slice (some ⟨gm, 0, none⟩) N cap) := fun n => by have := (HXn.out n).m0; rw [HN.out] at this; exact this
  have K19 : Hid (∀ n, Calls Tryd.prog 19 #[.slice (some ⟨gr, 0, none⟩) N cr, .slice (some ⟨gm, 0, none⟩) N cap] (fw n) fun e w' => e = .returned (.bool true) ∧ ∃ j, w' = fw j) := fun n => by have z := Ce.same_yes (some ⟨gr, 0, none⟩) (some ⟨gm, 0, none⟩) S.bs cr cap _ _ (fw n) ((HBa5.out.below (HSS.out n)).more (HSS.out n).size) (HXn.out n).ba (by rw [HN.out]; exact hbl); rw [HN.out] at z; exact z.mono fun e w' ⟨he, hb⟩ => ⟨he, hT9 w' (by obtain ⟨j, rfl⟩ := hb; exact up_drew (HSS.out n) j)⟩
  have K43 : Hid (∀ n, Calls Tryd.prog 43 #[.pointer (some ⟨s, 0, none⟩)] (fw n) fun e w' => e = .returned (.int .i64 10) ∧ ∃ j, w' = fw j) := fun n => (HCk.out _ (up_trans B5.out (HSS.out n))).mono fun e w' ⟨he, hb⟩ => ⟨he, hT9 w' (up_trans (HSS.out n) hb)⟩
  have K23a : Hid (∀ n, Calls Tryd.prog 23 #[.slice none 0 0, .slice none 0 0] (fw n) fun e w' => e = .returned (.bool true) ∧ ∃ j, w' = fw j) := fun n => (sameints_any [] none none 0 0 0 0 (fw n) (li_nil _) (li_nil _) (by simp) rfl rfl).mono fun e w' ⟨he, hb⟩ => ⟨he, hT9 w' (up_trans (HSS.out n) hb)⟩
  have K41 : Hid (∀ n, Calls Tryd.prog 41 #[.pointer (some ⟨s, 0, none⟩)] (fw n) fun e w' => e = .returned (.int .i64 ((S.h : Int) - 1)) ∧ ∃ j, w' = fw j) := fun n => (head_any (HSn.out n)).mono fun e w' ⟨he, hb⟩ => ⟨he, ⟨n, hb.symm⟩⟩
  have K32 : Hid (∀ n, Calls Tryd.prog 32 #[.pointer (some ⟨s, 0, none⟩)] (fw n) fun e w' => e = .returned (.int .i64 (S.f : Int)) ∧ ∃ j, w' = fw j) := fun n => (free_any (HSn.out n)).mono fun e w' ⟨he, hb⟩ => ⟨he, ⟨n, hb.symm⟩⟩
  have K42 : Hid (∀ n, Calls Tryd.prog 42 #[.pointer (some ⟨s, 0, none⟩)] (fw n) fun e w' => e = .returned (.int .i64 (stI (nS c) S.f)) ∧ ∃ j, w' = fw j) := fun n => (state_any (HSn.out n) (HTn.out n)).mono fun e w' ⟨he, hb⟩ => ⟨he, ⟨n, hb.symm⟩⟩
  have K65 : Hid (∀ n, Calls Tryd.prog 65 #[.pointer (some ⟨r, 0, none⟩)] (fw n) fun e w' => e = .returned (.int .i64 (stI (nS c) S.f)) ∧ ∃ j, w' = fw j) := fun n => (rstate_any (HXn.out n)).mono fun e w' ⟨he, hb⟩ => ⟨he, hT9 w' (up_trans (HSS.out n) hb)⟩
  have K38 : Hid (∀ n, Calls Tryd.prog 38 #[.pointer (some ⟨s, 0, none⟩)] (fw n) fun e w' => e = .returned (.int .i64 (b : Int)) ∧ ∃ j, w' = fw j) := fun n => (base_any (HSn.out n)).mono fun e w' ⟨he, hb⟩ => ⟨he, ⟨n, hb.symm⟩⟩
  have K39 : Hid (∀ n, Calls Tryd.prog 39 #[.pointer (some ⟨s, 0, none⟩)] (fw n) fun e w' => e = .returned (.int .i64 (c : Int)) ∧ ∃ j, w' = fw j) := fun n => (class_any (HSn.out n)).mono fun e w' ⟨he, hb⟩ => ⟨he, ⟨n, hb.symm⟩⟩
  have K29 : Hid (∀ n, Calls Tryd.prog 29 #[.pointer (some ⟨s, 0, none⟩)] (fw n) fun e w' => e = .returned (.int .i64 (zN c : Int)) ∧ ∃ j, w' = fw j) := fun n => (size_any (HSn.out n) (HTn.out n)).mono fun e w' ⟨he, hb⟩ => ⟨he, ⟨n, hb.symm⟩⟩
  have K66 : Hid (∀ n, Calls Tryd.prog 66 #[.pointer (some ⟨r, 0, none⟩)] (fw n) fun e w' => e = .returned (.int .i64 (zN c : Int)) ∧ ∃ j, w' = fw j) := fun n => (rsize_any (HXn.out n)).mono fun e w' ⟨he, hb⟩ => ⟨he, hT9 w' (up_trans (HSS.out n) hb)⟩
  have K28 : Hid (∀ n, Calls Tryd.prog 28 #[.pointer (some ⟨s, 0, none⟩)] (fw n) fun e w' => e = .returned (.int .i64 (nS c : Int)) ∧ ∃ j, w' = fw j) := fun n => (slots_any (HSn.out n) (HTn.out n)).mono fun e w' ⟨he, hb⟩ => ⟨he, ⟨n, hb.symm⟩⟩
  have K59 : Hid (∀ n, Calls Tryd.prog 59 #[.pointer (some ⟨r, 0, none⟩)] (fw n) fun e w' => e = .returned (.int .i64 (nS c : Int)) ∧ ∃ j, w' = fw j) := fun n => (rslots_any (HXn.out n)).mono fun e w' ⟨he, hb⟩ => ⟨he, hT9 w' (up_trans (HSS.out n) hb)⟩
  clear hS hT9
  simp only [List.cons_append, List.nil_append, List.append_eq]
  generalize stI (nS c) S.f = st at *
  generalize ((S.h : Int) - 1) = hh at *
  clear HXn HSn HTn HX HSb HT HCk HBa5 HMb
  generalize nS c = nn at *
  generalize zN c = zz at *
  generalize S.f = ff at *
  have E1 : (hh == hh) = true := by simp
  have E2 : ((ff : Int) == (ff : Int)) = true := by simp
  have E3 : (st == st) = true := by simp
  have E4 : ((b : Int) == (b : Int)) = true := by simp
  have E5 : ((c : Int) == (c : Int)) = true := by simp
  have E6 : ((zz : Int) == (zz : Int)) = true := by simp
  have E7 : ((nn : Int) == (nn : Int)) = true := by simp
  repeat (go_big_quiet_step ((first | (go_at_call 19; exact K19.out _) | (go_at_call 43; exact K43.out _) | (go_at_call 41; exact K41.out _) | (go_at_call 32; exact K32.out _) | (go_at_call 42; exact K42.out _) | (go_at_call 65; exact K65.out _) | (go_at_call 38; exact K38.out _) | (go_at_call 39; exact K39.out _) | (go_at_call 29; exact K29.out _) | (go_at_call 66; exact K66.out _) | (go_at_call 28; exact K28.out _) | (go_at_call 59; exact K59.out _) | (go_at_call 23; exact K23a.out _))))
  refine wpQuiet_nil ?_
  rintro _ ⟨n1, rfl⟩
  have B9 := Lib.hid (up_trans B5.out (HSS.out n1))
  clear s0 s1 s2 s3 s4 s5 E1 E2 E3 E4 E5 E6 E7
  go_wp2_with fail
  go_ret
  exact ⟨rfl, B9.out⟩
end
end Go.Proofs.YtaelfgdiboekpaaDoor.Ns

/-
  Every row of calls is answered as the document says: the walk of a statement.
-/
namespace Go.Proofs.YtaelfgdiboekpaaDoor.Ns
set_option maxRecDepth 100000
open Go.RowKit
open Ce (u y ldW Mem row)
open Bi (Blk Drawn hasB hasB_iff hasB_not up_alloc up_drew up_trans i64_in ret_i ret_b grown_refl grown_trans grown_below)

theorem two_agree {w0 w : World} {s q g r m gm cap b c : Nat} {S : SS} (I : Two w0 w s q g r m gm cap b c S S) :
    Calls Tryd.prog 20 #[.pointer (some ⟨q, 0, none⟩), .pointer (some ⟨s, 0, none⟩), .pointer (some ⟨r, 0, none⟩)] w fun e w' => e = .returned (.bool true) ∧ Below w.heap.size w w' := by
  by_cases hr : ∃ L, Rt (nx S.bs b c) S.h S.f L
  · obtain ⟨L, hr⟩ := hr
    exact agree_yes I.rf I.sb I.tb hr
  · exact agree_no I.rf I.sb I.tb hr
set_option maxHeartbeats 8000000 in
theorem calls_any (n x z : Int) (A : Option Addr) (N cp : Nat) (T : List Int) (P : Option Addr) (l : List Cl) (cap : Nat) (w : World) (hT : Tb.Tab w) (hX : In w A N cp T) (hcp : N ≤ cp) (hC : CA w P l) (hCp : ∀ j (h : j < l.length), l[j].n ≤ l[j].cap) :
    Calls Tryd.prog 4 #[.int .i64 n, .int .i64 x, .int .i64 z, .slice A N cp, .slice P l.length cap] w fun e w' => e = .returned (.bool true) ∧ Below w.heap.size w w' := by
  have HA := Lib.hid (alive_any w hT)
  have HT := Lib.hid hT
  have HC := Lib.hid hC
  have HX := Lib.hid hX
  have HCp := Lib.hid hCp
  obtain ⟨k, hk⟩ : ∃ k, l.length = k := ⟨_, rfl⟩
  have HK := Lib.hid hk
  have HG : Hid (∀ V : World, Below w.heap.size w V → Calls Tryd.prog 13 #[.int .i64 n, .slice P k cap] V fun e w' => e = .returned (.bool (greatB n l)) ∧ V = w') := fun V hV => great_any n k cap (hC.up hV) hk
  rw [hk]
  clear hT hC hk hX hCp
  by_cases hearly : greatB n l = true ∨ n < 0 ∨ 200 < N
  · obtain ⟨gb, hgb⟩ : ∃ gb, greatB n l = gb := ⟨_, rfl⟩
    rw [hgb] at HG hearly
    cases gb with
    | true =>
      clear hgb hearly HT HC HX HCp HK
      go_enter Tryd.func4, Tryd.ntmps4
      go_wp2_with fail
      refine HA.out.mono ?_
      rintro e w1 ⟨rfl, b1⟩
      have B1 := Lib.hid b1
      clear b1 HA
      go_wp2_with fail
      refine (HG.out _ B1.out).mono ?_
      rintro e w' ⟨rfl, rfl⟩
      clear HG
      go_wp2_with fail
      go_ret
      exact ⟨rfl, B1.out⟩
    | false =>
      by_cases h0 : n < 0
      · have d0 : decide (n < 0) = true := decide_eq_true h0
        clear hgb hearly HT HC HX HCp HK h0
        go_enter Tryd.func4, Tryd.ntmps4
        go_wp2_with fail
        refine HA.out.mono ?_
        rintro e w1 ⟨rfl, b1⟩
        have B1 := Lib.hid b1
        clear b1 HA
        go_wp2_with fail
        refine (HG.out _ B1.out).mono ?_
        rintro e w' ⟨rfl, rfl⟩
        clear HG
        go_wp2_with fail
        go_ret
        exact ⟨rfl, B1.out⟩
      · have d0 : decide (n < 0) = false := decide_eq_false h0
        have h2 : 200 < N := by rcases hearly with h | h | h; · cases h
                                · exact absurd h h0
                                · exact h
        have d2 : decide (200 < N) = true := decide_eq_true h2
        have d2' : decide ((200 : Int) < (N : Int)) = true := decide_eq_true (by omega)
        clear hgb hearly HT HC HX HCp HK h0 h2
        go_enter Tryd.func4, Tryd.ntmps4
        go_wp2_with fail
        refine HA.out.mono ?_
        rintro e w1 ⟨rfl, b1⟩
        have B1 := Lib.hid b1
        clear b1 HA
        go_wp2_with fail
        refine (HG.out _ B1.out).mono ?_
        rintro e w' ⟨rfl, rfl⟩
        clear HG
        go_wp2_with fail
        go_ret
        exact ⟨rfl, B1.out⟩
  · have hgf : greatB n l = false := by cases h : greatB n l with | false => rfl | true => exact absurd (.inl h) hearly
    have hn0 : 0 ≤ n := by by_cases h : n < 0; · exact absurd (.inr (.inl h)) hearly
                           · omega
    have hN2 : N ≤ 200 := by by_cases h : 200 < N; · exact absurd (.inr (.inr h)) hearly
                             · omega
    obtain ⟨nn, rfl⟩ := Int.eq_ofNat_of_zero_le hn0
    rw [hgf] at HG
    have d0 : decide ((nn : Int) < 0) = false := decide_eq_false (by omega)
    have d2 : decide (200 < N) = false := decide_eq_false (by omega)
    have d2' : decide ((200 : Int) < (N : Int)) = false := decide_eq_false (by omega)
    have hg := hgf
    unfold greatB at hg
    simp only [Bool.or_eq_false_iff, decide_eq_false_iff_not, List.any_eq_false, Bool.or_eq_true, decide_eq_true_eq, not_or] at hg
    obtain ⟨⟨hnn, hll⟩, heach⟩ := hg
    have hnn2 : nn ≤ 6000 := by omega
    have hk60 : k ≤ 60 := by rw [← HK.out]; omega
    have HEach : Hid (∀ j (h : j < l.length), l[j].n ≤ 100 ∧ l[j].m ≤ 2000) := fun j h => by have := heach l[j] (List.getElem_mem h); omega
    have hmk := Ce.make_bytes nn (by omega)
    clear hgf hearly hn0 hnn hll heach
    have HNw := Lib.hid (fun V => new_mem nn (by omega) V)
    have HOne : Hid (1 < w.heap.size) := HT.out.lt
    have hzl : (List.replicate nn 0#8).length = nn := List.length_replicate
    obtain ⟨zs, hzs⟩ : ∃ zs, List.replicate nn 0#8 = zs := ⟨_, rfl⟩
    have HZs := Lib.hid hzs
    rw [hzs] at HNw hzl
    have HZl := Lib.hid hzl
    clear hzs hzl
    have hboth := with_both x z T zs
    rcases hboth with ⟨E, hE, hp, hd⟩ | ⟨b, c, S0, hp, hd⟩
    · have HP := Lib.hid hp
      have HD := Lib.hid hd
      have dE : (E != E) = false := by simp
      clear hp hd HCp HEach HK hE
      go_enter Tryd.func4, Tryd.ntmps4
      go_wp2_with fail
      refine HA.out.mono ?_
      rintro e w1 ⟨rfl, b1⟩
      have B1 := Lib.hid b1
      clear b1 HA
      go_wp2_with fail
      refine (HG.out _ B1.out).mono ?_
      rintro e w' ⟨rfl, rfl⟩
      clear HG
      go_wp2_with fail
      refine (HNw.out w1).mono ?_
      rintro e w2 ⟨q, g, rfl, hm2, b2, hq, hgg⟩
      have B2 := Lib.hid (up_trans B1.out b2)
      have M2 := Lib.hid hm2
      have HPs : Hid (1 < q ∧ 1 < g) := by show _ ∧ _; have := HOne.out; have := B1.out.size; omega
      have HCpy := Lib.hid (copyInts_any (HX.out.up B2.out) (by omega))
      clear b2 hm2 HNw hq hgg
      go_wp2_with fail
      refine HCpy.out.mono ?_
      rintro e w3 ⟨A', c', rfl, l3, b3⟩
      have B3 := Lib.hid (up_trans B2.out b3)
      have M3 := Lib.hid (M2.out.below b3)
      have HP3 := Lib.hid (HP.out w3 q g A' N c' M3.out (HT.out.below B3.out) HPs.out l3.1 HX.out.2.1 (by omega))
      clear b3 l3 HCpy HP M2
      go_wp2_with fail
      refine HP3.out.mono ?_
      rintro e w4 ⟨rfl, b4⟩
      have B4 := Lib.hid (up_trans B3.out b4)
      have M4 := Lib.hid (M3.out.below b4)
      have RM5 := rm_made w4 nn (by omega)
      rw [HZs.out] at RM5
      have b5 : Below w4.heap.size w4 ((w4.alloc (.cells (madeCells #[.int .u8 0] nn) 5)).alloc (.cells #[.slice (some ⟨w4.heap.size, 0, none⟩) nn nn] 47)) := up_alloc (up_alloc (Below.refl _ _) _) _
      have B5 := Lib.hid (up_trans B4.out b5)
      have M5 := Lib.hid (M4.out.below b5)
      have hs4 := B4.out.size
      have hs5 := B5.out.size
      have HD5 := Lib.hid (HD.out _ _ _ _ A N cp w.heap.size RM5 (HX.out.1.below B5.out) ⟨by omega, hs5⟩ HX.out.2.1 (by omega) hcp)
      have hmk4 := hmk w4
      clear b4 RM5 b5 HP3 M3 HD M4 hs4 hs5
      go_wp2_with fail
      refine HD5.out.mono ?_
      rintro e w6 ⟨rfl, b6⟩
      have B6 := Lib.hid (up_trans B5.out b6)
      have M6 := Lib.hid (M5.out.below b6)
      have HRd : Hid (Calls Tryd.prog 18 #[.pointer (some ⟨q, 0, none⟩), .int .i64 0, .int .i64 (nn : Int)] w6 fun e w' => ∃ gr cr, e = .returned (.tuple #[.slice (some ⟨gr, 0, none⟩) nn cr, .int .i64 0]) ∧ Ce.BA w'.heap.size w' (some ⟨gr, 0, none⟩) zs ∧ Below w6.heap.size w6 w') := (Ce.read_yes q g zs 0 nn w6 M6.out (by rw [HZl.out]; omega)).mono fun e w' h => by
        obtain ⟨h1, h2, h3⟩ := h
        have e1 : Ce.sub zs 0 nn = zs := by rw [← HZl.out]; exact Ce.sub_all zs
        rw [e1] at h1 h2
        rw [HZl.out] at h1
        exact ⟨_, _, h1, fun _ => ⟨_, 0, rfl, h2.lt, fun j hj => by rw [Nat.zero_add]; exact h2.cell hj⟩, h3⟩
      clear b6 HD5 M5 hmk4
      go_wp2_with fail
      refine HRd.out.mono ?_
      rintro e w7 ⟨gr, cr, rfl, hba, b7⟩
      have B7 := Lib.hid (up_trans B6.out b7)
      have hmk7 := hmk w7
      have b8 : Below w7.heap.size w7 (w7.alloc (.cells (madeCells #[.int .u8 0] nn) 5)) := up_alloc (Below.refl _ _) _
      have hr8 := Ce.Row.made w7 nn
      rw [HZs.out] at hr8
      have HSm : Hid (Calls Tryd.prog 19 #[.slice (some ⟨gr, 0, none⟩) nn cr, .slice (some ⟨w7.heap.size, 0, none⟩) nn nn] (w7.alloc (.cells (madeCells #[.int .u8 0] nn) 5)) fun e w' => e = .returned (.bool true) ∧ Below (w7.alloc (.cells (madeCells #[.int .u8 0] nn) 5)).heap.size (w7.alloc (.cells (madeCells #[.int .u8 0] nn) 5)) w') := by
        have zz := Ce.same_yes (some ⟨gr, 0, none⟩) (some ⟨w7.heap.size, 0, none⟩) zs cr nn _ _ (w7.alloc (.cells (madeCells #[.int .u8 0] nn) 5)) ((hba.below b8).more b8.size) (fun _ => ⟨_, 0, rfl, hr8.lt, fun j hj => by rw [Nat.zero_add]; exact hr8.cell hj⟩) (by rw [HZl.out]; omega)
        rw [HZl.out] at zz
        exact zz.mono fun e w' ⟨he, hb⟩ => ⟨he, by obtain ⟨j, rfl⟩ := hb; exact up_drew (Below.refl _ _) j⟩
      have B8 := Lib.hid (up_trans B7.out b8)
      clear b7 hba b8 hr8 HRd M6
      go_wp2_with fail
      refine HSm.out.mono ?_
      rintro e w9 ⟨rfl, b9⟩
      have B9 := Lib.hid (up_trans B8.out b9)
      clear b9 HSm
      go_wp2_with fail
      go_ret
      exact ⟨rfl, B9.out⟩
    · have HP := Lib.hid hp
      have HD := Lib.hid hd
      clear hp hd
      go_enter Tryd.func4, Tryd.ntmps4
      go_wp2_with fail
      refine HA.out.mono ?_
      rintro e w1 ⟨rfl, b1⟩
      have B1 := Lib.hid b1
      clear b1 HA
      go_wp2_with fail
      refine (HG.out _ B1.out).mono ?_
      rintro e w' ⟨rfl, rfl⟩
      clear HG
      go_wp2_with fail
      refine (HNw.out w1).mono ?_
      rintro e w2 ⟨q, g, rfl, hm2, b2, hq, hgg⟩
      have B2 := Lib.hid (up_trans B1.out b2)
      have M2 := Lib.hid hm2
      have HPs : Hid (1 < q ∧ 1 < g) := by show _ ∧ _; have := HOne.out; have := B1.out.size; omega
      have HQs : Hid (w.heap.size ≤ q ∧ w.heap.size ≤ g) := by show _ ∧ _; have := B1.out.size; omega
      have HCpy := Lib.hid (copyInts_any (HX.out.up B2.out) (by omega))
      clear b2 hm2 HNw hq hgg
      go_wp2_with fail
      refine HCpy.out.mono ?_
      rintro e w3 ⟨A', c', rfl, l3, b3⟩
      have B3 := Lib.hid (up_trans B2.out b3)
      have M3 := Lib.hid (M2.out.below b3)
      have HP3 := Lib.hid (HP.out w3 q g A' N c' M3.out (HT.out.below B3.out) HPs.out l3.1 HX.out.2.1 (by omega))
      clear b3 l3 HCpy HP M2
      go_wp2_with fail
      refine HP3.out.mono ?_
      rintro e w4 ⟨s, rfl, sb4, hs4, tb4, f4⟩
      have B4 : Hid (Below w.heap.size w w4) := B3.out.trans (f4.below HQs.out.2 HQs.out.2 B3.out.size)
      have SB4 := Lib.hid sb4
      have TB4 := Lib.hid tb4
      have HSs : Hid (w.heap.size ≤ s) := Nat.le_trans B3.out.size hs4
      have RM5 := rm_made w4 nn (by omega)
      rw [HZs.out] at RM5
      have b5 : Below w4.heap.size w4 ((w4.alloc (.cells (madeCells #[.int .u8 0] nn) 5)).alloc (.cells #[.slice (some ⟨w4.heap.size, 0, none⟩) nn nn] 47)) := up_alloc (up_alloc (Below.refl _ _) _) _
      have B5 := Lib.hid (up_trans B4.out b5)
      have SB5 := Lib.hid (sb4.below b5)
      have TB5 := Lib.hid (tb4.below b5)
      have hz4 := B4.out.size
      have hz5 := B5.out.size
      have HD5 := Lib.hid (HD.out _ _ _ _ A N cp w.heap.size RM5 (HX.out.1.below B5.out) ⟨by omega, hz5⟩ HX.out.2.1 (by omega) hcp)
      have HG4 : Hid (g < w4.heap.size) := sb4.lt.2.2
      have HM4 : Hid (w.heap.size ≤ w4.heap.size) := hz4
      have hmk4 := hmk w4
      have hrk := SB5.out.kinds
      have HRk := Lib.hid RM5.mblk
      obtain ⟨w5, hw5⟩ : ∃ w5, (w4.alloc (.cells (madeCells #[.int .u8 0] nn) 5)).alloc (.cells #[.slice (some ⟨w4.heap.size, 0, none⟩) nn nn] 47) = w5 := ⟨_, rfl⟩
      have HW5 := Lib.hid hw5
      rw [hw5] at HD5 B5 SB5 TB5 HRk
      clear RM5 b5 HP3 M3 HD hz4 hz5 sb4 hs4 tb4 f4 hrk hw5 SB4 TB4
      go_wp2_with fail
      rw [HW5.out]
      refine HD5.out.mono ?_
      rintro e w6 ⟨r, gm, cp6, rfl, rf6, hr6, f6, hg6⟩
      have hI : Two w w6 s q g r (w4.heap.size + 1) gm cp6 b c S0 S0 := by
        have k5 := SB5.out.kinds
        have km := kind_blk HRk.out
        have hm4 := HM4.out
        have hz5 := B5.out.size
        have hg4 := HG4.out
        have hgw : g < w5.heap.size := SB5.out.lt.2.2
        refine ⟨SB5.out.far f6 km km (by decide) (by decide), rf6, f6.tab TB5.out (by have := HOne.out; omega) (by have := HOne.out; omega), B5.out.trans (f6.below (by omega) (by omega) hz5), ⟨HSs.out, HQs.out.1, HQs.out.2, Nat.le_trans hz5 hr6, by omega, ?_⟩, ?_, HOne.out⟩
        · rcases hg6 with rfl | h
          · exact hm4
          · omega
        · rcases hg6 with rfl | h
          · omega
          · omega
      have HI := Lib.hid hI
      obtain ⟨m, hm⟩ : ∃ m, w4.heap.size + 1 = m := ⟨_, rfl⟩
      rw [hm] at HI
      have HAg := Lib.hid (two_agree HI.out)
      clear rf6 hr6 f6 hg6 hI hm HD5 SB5 TB5 B5 B4 B3 B2 B1 HSs HQs HPs HG4 HM4 hmk4 HRk HW5 HZs HZl hmk HOne
      go_wp2_with fail
      refine HAg.out.mono ?_
      rintro e w7 ⟨rfl, b7⟩
      have I7 := Lib.hid (HI.out.below b7)
      clear b7 HAg HI
      go_wp2_with fail
      go_loopw [19] (fun i wr => ∃ (j : Nat) (S : SS) (gm' cap' : Nat), j ≤ k ∧ i = .int .i64 (j : Int) ∧ Two w wr s q g r m gm' cap' b c S S) (fun i _ => k - (intOf i).toNat)
      case atStart => exact ⟨0, S0, gm, cp6, by omega, rfl, I7.out⟩
      case round =>
        obtain ⟨j, S, gm', cap', hj, rfl, hI⟩ := hrel
        have HIr := Lib.hid hI
        clear hI
        by_cases hlt : j < k
        · have hjl : j < l.length := by rw [HK.out]; exact hlt
          have hCr := HC.out.up HIr.out.bel
          obtain ⟨b', o', rfl, hbl, c0, c1, c2, c3, -, ha, -⟩ := hCr j hjl
          obtain ⟨_, _, -, -, -, -, -, -, hin, -, hib⟩ := HC.out j hjl
          have hX2 := HEach.out j hjl
          have hX3 := HCp.out j hjl
          obtain ⟨X, hX⟩ : ∃ X, l[j] = X := ⟨_, rfl⟩
          rw [hX] at c0 c1 c2 c3 hin ha hib hX2 hX3
          have j1 : (0 : Int) ≤ (j : Int) := by omega
          have j2 : (j : Int) < (k : Int) := by omega
          obtain ⟨E, O, S', hOl, t1, t2⟩ := two_call X HIr.out hin hib (by omega) (by omega) hX3 ha
          have T1 := Lib.hid t1
          have T2 := Lib.hid t2
          have HCj := Lib.hid (fun (V : World) (hV : Below w.heap.size w V) => HC.out.up hV j hjl)
          rw [hX] at HCj
          have dE : (E != E) = false := by simp
          unfold Cl.val at T1 T2
          clear hin ha hib hX2 hX3 hX hCr t1 t2 hbl
          go_wp2_with fail
          refine T1.out.mono ?_
          rintro e w8 ⟨⟨A1, k1, p1, rfl, l1, e1⟩, i8⟩
          have I8 := Lib.hid i8
          have L1 := Lib.hid l1
          have E1 := Lib.hid e1
          have T3 := Lib.hid (T2.out w8 i8)
          obtain ⟨b2, o2, eq, _, g0, g1, g2, g3, -⟩ := HCj.out w8 i8.bel
          cases eq
          clear i8 l1 e1 T1 T2 c0 c1 c2 c3 HCj
          go_wp2_with fail
          refine T3.out.mono ?_
          rintro e w9 ⟨⟨A2, k2, p2, rfl, l2, e2⟩, gm2, cap2, i9, hkeep⟩
          have I9 := Lib.hid i9
          have HSi := Lib.hid (sameints_any O A1 A2 p1 p2 k1 k2 w9 (hkeep A1 O L1.out) l2 (by omega) E1.out e2)
          clear i9 hkeep l2 e2 T3 L1 E1 I8 g0 g1 g2 g3
          go_wp2_with fail
          refine HSi.out.mono ?_
          rintro e w10 ⟨rfl, b10⟩
          have I10 := Lib.hid (I9.out.below b10)
          have HAg := Lib.hid (two_agree I10.out)
          clear b10 HSi I9
          go_wp2_with fail
          refine HAg.out.mono ?_
          rintro e w11 ⟨rfl, b11⟩
          have I11 := Lib.hid (I10.out.below b11)
          clear b11 HAg I10
          go_wp2_with fail
          go_roundw
          case rel => exact ⟨j + 1, S', gm2, cap2, by omega, by go_num, I11.out⟩
          case measure => simp [intOf]; omega
        · obtain rfl : j = k := by omega
          go_wp2_with fail
          go_ret
          exact ⟨rfl, HIr.out.bel⟩
end Go.Proofs.YtaelfgdiboekpaaDoor.Ns
