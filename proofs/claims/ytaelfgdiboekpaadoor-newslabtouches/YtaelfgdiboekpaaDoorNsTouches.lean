/-
  No call changes a byte of a taken slot, nor one outside words: the walk of a statement.
-/
import Derived.Test.YtaelfgdiboekpaaDoorNsTouch
namespace Go.Proofs.YtaelfgdiboekpaaDoor.Ns
set_option maxRecDepth 100000
open Go.RowKit
open Ce (u y ldW Mem SP likeB diffL)
open Bi (Blk Drawn hasB hasB_iff hasB_not up_alloc up_drew up_trans i64_in ret_i ret_b grown_refl grown_trans grown_below)

theorem not4 {x : Int} : x = 4 ∨ x ≠ 4 := by omega
set_option maxHeartbeats 8000000 in
theorem touches_any (class_ : Int) (fl : BitVec 8) (P : Option Addr) (l : List Cl) (cap : Nat) (X : Cl) (w : World) (hT : Tb.Tab w) (hC : CA w P l) (hXi : In w X.A X.n X.cap X.xs) (hXa : I64 X.a) :
    Calls Tryd.prog 5 #[.int .i64 class_, .int .u8 (y fl), .slice P l.length cap, X.val] w fun e w' => e = .returned (.bool true) ∧ Below w.heap.size w w' := by
  obtain ⟨wB, hwB⟩ : ∃ wB, w.alloc (.cells #[.int .i64 X.x, .int .i64 X.a, .slice X.A X.n X.cap, .slice X.B X.m X.mcap] 55) = wB := ⟨_, rfl⟩
  have hbB : Below w.heap.size w wB := by rw [← hwB]; exact up_alloc (Below.refl _ _) _
  obtain ⟨bx, hbx⟩ : ∃ bx, w.heap.size = bx := ⟨_, rfl⟩
  have hBx : Blk wB bx [.int .i64 X.x, .int .i64 X.a, .slice X.A X.n X.cap, .slice X.B X.m X.mcap] 55 := by rw [← hwB, ← hbx]; exact heap_alloc_new w _
  have HBx := Lib.hid hBx
  have HWB := Lib.hid hwB
  have HBB := Lib.hid hbB
  have HSz := Lib.hid hbx
  have HA := Lib.hid (alive_any wB (hT.below hbB))
  have HT := Lib.hid (hT.below hbB)
  have HC := Lib.hid (hC.up hbB)
  have HXi := Lib.hid (hXi.up hbB)
  have HXa := Lib.hid hXa
  obtain ⟨n, hn⟩ : ∃ n, l.length = n := ⟨_, rfl⟩
  have HN := Lib.hid hn
  have HG : Hid (∀ V : World, Below wB.heap.size wB V → Calls Tryd.prog 13 #[.int .i64 0, .slice P n cap] V fun e w' => e = .returned (.bool (greatB 0 l)) ∧ V = w') := fun V hV => great_any 0 n cap ((hC.up hbB).up hV) hn
  rw [hn]
  clear hT hC hn hXi hXa hwB hbB hbx hBx
  have HVal : Hid (X.val = .agg #[.int .i64 X.x, .int .i64 X.a, .slice X.A X.n X.cap, .slice X.B X.m X.mcap]) := rfl
  have HDone : Hid (∀ (V w1 : World) (s q g b c : Nat) (S : SS) (L : List Nat), Ev w1 V s q g b c S L → In V X.A X.n X.cap X.xs → X.n ≤ 100 → X.x ≠ 4 → Calls Tryd.prog 21 #[.pointer (some ⟨q, 0, none⟩), .pointer (some ⟨s, 0, none⟩), .agg #[.int .i64 X.x, .int .i64 X.a, .slice X.A X.n X.cap, .slice X.B X.m X.mcap]] V (Did w1 s q g b c S L X V)) := fun V w1 s q g b c S L h1 h2 h3 h4 => done_any X h1 h2 HXa.out (by omega) h4
  rw [HVal.out]
  cases hg : greatB 0 l with
  | true =>
    rw [hg] at HG
    clear hg HT HC HN HDone HVal
    go_enter Tryd.func5, Tryd.ntmps5
    go_wp2_with fail
    rw [HSz.out, HWB.out]
    refine HA.out.mono ?_
    rintro e w1 ⟨rfl, b1⟩
    have B1 := Lib.hid b1
    have BX1 := Lib.hid (HBx.out.below b1)
    clear b1 HA
    go_wp2_with fail
    refine (HG.out _ B1.out).mono ?_
    rintro e w' ⟨rfl, rfl⟩
    clear HG
    go_wp2_with fail
    go_ret
    exact ⟨rfl, up_trans HBB.out B1.out⟩
  | false =>
  rcases class_split class_ with hcl | hcl | ⟨c, rfl, hc⟩
  · have d0 : decide (class_ < 0) = true := by simpa using hcl
    rw [hg] at HG
    clear hg HT HC HN hcl HDone HVal
    go_enter Tryd.func5, Tryd.ntmps5
    go_wp2_with fail
    rw [HSz.out, HWB.out]
    refine HA.out.mono ?_
    rintro e w1 ⟨rfl, b1⟩
    have B1 := Lib.hid b1
    have BX1 := Lib.hid (HBx.out.below b1)
    clear b1 HA
    go_wp2_with fail
    refine (HG.out _ B1.out).mono ?_
    rintro e w' ⟨rfl, rfl⟩
    clear HG
    go_wp2_with fail
    go_ret
    exact ⟨rfl, up_trans HBB.out B1.out⟩
  · have d0 : decide (class_ < 0) = false := by simp; omega
    have d1 : decide (11 < class_) = true := by simpa using hcl
    rw [hg] at HG
    clear hg HT HC HN hcl HDone HVal
    go_enter Tryd.func5, Tryd.ntmps5
    go_wp2_with fail
    rw [HSz.out, HWB.out]
    refine HA.out.mono ?_
    rintro e w1 ⟨rfl, b1⟩
    have B1 := Lib.hid b1
    have BX1 := Lib.hid (HBx.out.below b1)
    clear b1 HA
    go_wp2_with fail
    refine (HG.out _ B1.out).mono ?_
    rintro e w' ⟨rfl, rfl⟩
    clear HG
    go_wp2_with fail
    go_ret
    exact ⟨rfl, up_trans HBB.out B1.out⟩
  · have d0 : decide ((c : Int) < 0) = false := decide_eq_false (by omega)
    have d1 : decide ((11 : Int) < (c : Int)) = false := decide_eq_false (by omega)
    have HGr := Lib.hid hg
    have Hc := Lib.hid hc
    rw [hg] at HG
    clear hg hc
    by_cases hx100 : 100 < X.n
    · have d2 : decide ((100 : Int) < (X.n : Int)) = true := decide_eq_true (by omega)
      clear hx100 HDone HVal HT HC HN
      go_enter Tryd.func5, Tryd.ntmps5
      go_wp2_with fail
      rw [HSz.out, HWB.out]
      refine HA.out.mono ?_
      rintro e w1 ⟨rfl, b1⟩
      have B1 := Lib.hid b1
      have BX1 := Lib.hid (HBx.out.below b1)
      have rx2 : w1.cell? ⟨bx, 2, none⟩ = some (.slice X.A X.n X.cap) := BX1.out.cell
      clear b1 HA
      go_wp2_with fail
      refine (HG.out _ B1.out).mono ?_
      rintro e w' ⟨rfl, rfl⟩
      clear HG
      go_wp2_with fail
      go_ret
      exact ⟨rfl, up_trans HBB.out B1.out⟩
    have d2 : decide ((100 : Int) < (X.n : Int)) = false := decide_eq_false (by omega)
    have HX100 : Hid (X.n ≤ 100) := by show _ ≤ _; omega
    clear hx100 HVal
    go_enter Tryd.func5, Tryd.ntmps5
    go_wp2_with fail
    rw [HSz.out, HWB.out]
    refine HA.out.mono ?_
    rintro e w1 ⟨rfl, b1⟩
    have B1 := Lib.hid b1
    have BX1 := Lib.hid (HBx.out.below b1)
    have rx2 : w1.cell? ⟨bx, 2, none⟩ = some (.slice X.A X.n X.cap) := BX1.out.cell
    clear b1 HA
    go_wp2_with fail
    refine (HG.out _ B1.out).mono ?_
    rintro e w' ⟨rfl, rfl⟩
    clear HG
    have HB := Lib.hid (begun_any c fl P l n cap w1 (HT.out.below B1.out) Hc.out (HC.out.up B1.out) HN.out HGr.out)
    have HX1 := Lib.hid (HXi.out.up B1.out)
    go_wp2_with fail
    clear rx2
    refine HB.out.mono ?_
    rintro e w2 ⟨s, q, g, S, L, rfl, E2, -⟩
    have BX2 := Lib.hid (BX1.out.below E2.bel)
    have HX2 := Lib.hid (HX1.out.up E2.bel)
    have E2 := Lib.hid E2
    clear HB d0 d1 d2 HX1
    obtain ⟨N, hN⟩ : ∃ N, nS c = N := ⟨_, rfl⟩
    have HNc := Lib.hid hN
    have h128 : N ≤ 128 := by rw [← hN]; exact (cls c Hc.out).2.2.2.1
    have HCl := Lib.hid (Ce.clone_any q g _ _ E2.out.sb.mem)
    unfold Ce.Cloned at HCl
    clear hN
    go_wp2_with fail
    refine HCl.out.mono ?_
    rintro e w3 ⟨q', rfl, hq', m', b3⟩
    have hs2 := E2.out.bel.size
    have HQ : Hid (w1.heap.size ≤ q' ∧ w1.heap.size ≤ w2.heap.size ∧ w2.heap.size ≤ q') := ⟨by omega, hs2, hq'⟩
    have E3 := Lib.hid (E2.out.below b3)
    have BX3 := Lib.hid (BX2.out.below b3)
    have HX3 := Lib.hid (HX2.out.up b3)
    have M3 := Lib.hid m'
    have hlt2 := E2.out.sb.lt
    have HLt2 : Hid (s < w2.heap.size ∧ q < w2.heap.size ∧ g < w2.heap.size) := hlt2
    have HTk := Lib.hid (ev_taken E3.out)
    rw [HNc.out] at HTk
    have hTle := tkn_le L N
    obtain ⟨tn, htn⟩ : ∃ tn, (tkn L N).length = tn := ⟨_, rfl⟩
    have HTn := Lib.hid htn
    rw [htn] at HTk hTle
    clear HCl b3 m' hq' E2 BX2 HX2 htn hs2 hlt2
    go_wp2_with fail
    refine HTk.out.mono ?_
    rintro e w4 ⟨⟨A1, cp1, rfl, l1⟩, b4⟩
    have E4 := Lib.hid (E3.out.below b4)
    have BX4 := Lib.hid (BX3.out.below b4)
    have HX4 := Lib.hid (HX3.out.up b4)
    have M4 := Lib.hid (M3.out.below b4)
    have L4 := Lib.hid l1
    have HSz4 : Hid (w2.heap.size ≤ w4.heap.size ∧ bx < w1.heap.size ∧ 1 < w2.heap.size) := ⟨by have := M3.out.lt; have := b4.size; have := M4.out.2.1.lt; omega, BX1.out.lt, by have := E4.out.sb.pos; have := HLt2.out; omega⟩
    have c0 : w4.cell? ⟨bx, 0, none⟩ = some (.int .i64 X.x) := BX4.out.cell
    have c1 : w4.cell? ⟨bx, 1, none⟩ = some (.int .i64 X.a) := BX4.out.cell
    have c2 : w4.cell? ⟨bx, 2, none⟩ = some (.slice X.A X.n X.cap) := BX4.out.cell
    have c3 : w4.cell? ⟨bx, 3, none⟩ = some (.slice X.B X.m X.mcap) := BX4.out.cell
    clear HTk b4 l1 E3 BX3 HX3 M3
    rcases not4 (x := X.x) with hx4 | hx4
    · have d4 : (X.x != 4) = false := by simp [hx4]
      have EZ : Hid (∃ S' L', Ev w1 w4 s q g 1024 c S' L' ∧ S'.bs.length = S.bs.length ∧ Wds 1024 c S.bs S'.bs L L') := ⟨S, L, E4.out, rfl, wds_same _ _ _ _ _⟩
      have MZ := Lib.hid M4.out
      have LZ := Lib.hid L4.out
      clear hx4 E4 BX4 HX4 M4 L4
      go_wp2_with fail
      clear c0 c1 c2 c3
      obtain ⟨S2, L2, e5, hlen, hwd⟩ := EZ.out
      have E5 := Lib.hid e5
      have HLen := Lib.hid hlen
      have HWd := Lib.hid hwd
      have HTk := Lib.hid (ev_taken E5.out)
      rw [HNc.out] at HTk
      have hUle := tkn_le L2 N
      obtain ⟨un, hun⟩ : ∃ un, (tkn L2 N).length = un := ⟨_, rfl⟩
      have HUn := Lib.hid hun
      rw [hun] at HTk hUle
      clear EZ e5 hlen hwd hun
      refine HTk.out.mono ?_
      rintro e w6 ⟨⟨A2, cp2, rfl, l2⟩, b6⟩
      have E6 := Lib.hid (E5.out.below b6)
      have M6 := Lib.hid (MZ.out.below b6)
      have L6 := Lib.hid (LZ.out.below b6)
      have U6 := Lib.hid l2
      have HDf := Lib.hid (Ce.differ_any q g q' w2.heap.size S2.bs S.bs w6 E6.out.sb.mem M6.out)
      unfold Ce.Differs at HDf
      clear HTk b6 l2 E5 MZ LZ
      go_wp2_with fail
      refine HDf.out.mono ?_
      rintro e w7 ⟨A3, cp3, rfl, sp, b7⟩
      have E7 := Lib.hid (E6.out.below b7)
      have L7 := Lib.hid (L6.out.below b7)
      have U7 := Lib.hid (U6.out.below b7)
      have SP7 := Lib.hid sp
      have HUn2 := Lib.hid (diff_un (likeB S2.bs S.bs) (max S2.bs.length S.bs.length))
      have hdl := Ce.diffL_length (likeB S2.bs S.bs) (max S2.bs.length S.bs.length)
      have hb1 := E7.out.sb.bd
      have hE : max S2.bs.length S.bs.length ≤ 1048576 := by rw [← HLen.out]; omega
      have HE := Lib.hid hE
      have HLe := Lib.hid (diff_le (likeB S2.bs S.bs) (max S2.bs.length S.bs.length))
      generalize hD : diffL (likeB S2.bs S.bs) (max S2.bs.length S.bs.length) = D at *
      have HKey : Hid (∀ x, x < max S2.bs.length S.bs.length → likeB S2.bs S.bs x = false → ∃ k, k < N ∧ k ∉ L ∧ k ∈ L2 ∧ 1024 + k * zN c ≤ x ∧ x < 1024 + k * zN c + 8) := fun x h1 h2 => by
        have := HWd.out x (unlike HLen.out h1 h2)
        rw [HNc.out] at this
        exact this
      obtain ⟨dn, hdn⟩ : ∃ dn, D.length = dn := ⟨_, rfl⟩
      have HDn := Lib.hid hdn
      rw [hdn] at hdl ⊢
      have hdn2 : dn ≤ 1048577 := by omega
      clear HDf b7 sp E6 M6 L6 U6 hdl hb1 hE hD hdn
      go_wp2_with fail
      go_loopw [17] (fun i wr => ∃ k : Nat, k ≤ dn ∧ i = .int .i64 (k : Int) ∧ Below w7.heap.size w7 wr) (fun i _ => dn - (intOf i).toNat)
      case atStart => exact ⟨0, by omega, rfl, Below.refl _ _⟩
      case round =>
        obtain ⟨k, hk, rfl, hb⟩ := hrel
        have HBr := Lib.hid hb
        clear hb
        by_cases hlt : k < dn
        · have hkl : k < D.length := by rw [HDn.out]; exact hlt
          obtain ⟨g3, hA3, hg3, hcell⟩ := (SP7.out.below HBr.out) (by omega)
          obtain ⟨c5, c6⟩ := hcell k hkl
          obtain ⟨at_, hat⟩ : ∃ a, (D.getD k (0, 0)).1 = a := ⟨_, rfl⟩
          obtain ⟨nn, hnn⟩ : ∃ a, (D.getD k (0, 0)).2 = a := ⟨_, rfl⟩
          rw [hat] at c5
          rw [hnn] at c6
          have hmem : (at_, nn) ∈ D := by
            have : D.getD k (0, 0) = D[k] := by rw [List.getD_eq_getElem?_getD, List.getElem?_eq_getElem hkl]; rfl
            rw [← hat, ← hnn, this]
            exact List.getElem_mem hkl
          have HRow : Hid (∀ x, at_ ≤ x → x < at_ + nn → x < max S2.bs.length S.bs.length ∧ ∃ k, k < N ∧ k ∉ L ∧ k ∈ L2 ∧ 1024 + k * zN c ≤ x ∧ x < 1024 + k * zN c + 8) := fun x h1 h2 => by
            obtain ⟨h3, h4⟩ := HUn2.out _ hmem x h1 h2
            exact ⟨h4, HKey.out x h4 h3⟩
          have hbnd : at_ + nn ≤ 1048576 := Nat.le_trans (HLe.out _ hmem) HE.out
          have HAtb := Lib.hid hbnd
          have HC5 := Lib.hid c5
          have HC6 := Lib.hid c6
          have HG3 : Hid (g3 < w7.heap.size) := hg3
          have j1 : (0 : Int) ≤ (k : Int) := by omega
          have j2 : (k : Int) < (dn : Int) := by omega
          have j3 : decide ((k : Int) < (dn : Int)) = true := decide_eq_true j2
          subst hA3
          have HMem := Lib.hid hmem
          clear hkl hcell hat hnn hmem hg3 hbnd
          go_wp2_with fail
          clear c5 c6
          go_loopw [18] (fun i wq => ∃ x : Nat, at_ ≤ x ∧ x ≤ at_ + nn ∧ i = .int .i64 (x : Int) ∧ Below w7.heap.size w7 wq) (fun i _ => at_ + nn - (intOf i).toNat)
          case atStart => exact ⟨at_, by omega, by omega, rfl, HBr.out⟩
          case round =>
            obtain ⟨x, hx1, hx2, rfl, hbq⟩ := hrel
            have HBq := Lib.hid hbq
            have c5 := (HBq.out.cell (p := ⟨g3, k * 2, none⟩) HG3.out).trans ((HBr.out.cell (p := ⟨g3, k * 2, none⟩) HG3.out).symm.trans HC5.out)
            have c6 := (HBq.out.cell (p := ⟨g3, k * 2 + 1, none⟩) HG3.out).trans ((HBr.out.cell (p := ⟨g3, k * 2 + 1, none⟩) HG3.out).symm.trans HC6.out)
            have wsum : IntKind.i64.wrap ((at_ : Int) + (nn : Int)) = (at_ : Int) + (nn : Int) := by
              have := HAtb.out
              rw [IntKind.wrap_i64]; omega
            clear hbq
            by_cases hlt2 : x < at_ + nn
            · have dlt : decide ((x : Int) < (at_ : Int) + (nn : Int)) = true := decide_eq_true (by omega)
              obtain ⟨hxE, z, hz1, hz2, hz3, hz4, hz5⟩ := HRow.out x hx1 hlt2
              have Eq := Lib.hid (E7.out.below HBq.out)
              have HIu := Lib.hid (fun (V : World) (hV : Below w7.heap.size w7 V) => in_any (nats (tkn L2 N)) A2 cp2 un (z : Int) V (U7.out.below hV) (by rw [nats_len, HUn.out]) (by omega))
              have HIt := Lib.hid (fun (V : World) (hV : Below w7.heap.size w7 V) => in_any (nats (tkn L N)) A1 cp1 tn (z : Int) V (L7.out.below hV) (by rw [nats_len, HTn.out]) (by omega))
              rw [show decide ((z : Int) ∈ nats (tkn L2 N)) = false from decide_eq_false (fun e => (mem_tkn.1 (mem_nats.1 e)).2 hz3)] at HIu
              rw [show decide ((z : Int) ∈ nats (tkn L N)) = true from decide_eq_true (mem_nats.2 (mem_tkn.2 ⟨hz1, hz2⟩))] at HIt
              have HSl : Hid (∀ V : World, Below w7.heap.size w7 V → Calls Tryd.prog 28 #[.pointer (some ⟨s, 0, none⟩)] V fun e w' => e = .returned (.int .i64 (N : Int)) ∧ V = w') := fun V hV => by
                have := slots_any (E7.out.below hV).sb (E7.out.below hV).tb
                rw [HNc.out] at this
                exact this
              have HZs : Hid (∀ V : World, Below w7.heap.size w7 V → Calls Tryd.prog 29 #[.pointer (some ⟨s, 0, none⟩)] V fun e w' => e = .returned (.int .i64 (zN c : Int)) ∧ V = w') := fun V hV => size_any (E7.out.below hV).sb (E7.out.below hV).tb
              obtain ⟨Z, hZ⟩ : ∃ Z, zN c = Z := ⟨_, rfl⟩
              have hcl := cls c Hc.out
              rw [HNc.out, hZ] at hcl
              rw [hZ] at HZs hz4 hz5
              have hzN : z * Z + Z ≤ 1024 := by
                have := slot_in (k := z) Hc.out (by rw [HNc.out]; exact hz1)
                rwa [hZ] at this
              have hNZ : z * Z + Z ≤ N * Z := by
                have : (z + 1) * Z ≤ N * Z := Nat.mul_le_mul_right _ hz1
                rwa [Nat.succ_mul] at this
              obtain ⟨NZ, hNZe⟩ : ∃ NZ, N * Z = NZ := ⟨_, rfl⟩
              obtain ⟨r, hr⟩ : ∃ r, x = 1024 + z * Z + r := ⟨x - (1024 + z * Z), by omega⟩
              have hr8 : r < 8 := by omega
              obtain ⟨d, hd⟩ : ∃ d, z * Z + r = d := ⟨_, rfl⟩
              have hxd : x = 1024 + d := by omega
              have t1 : ((d : Nat) : Int).tmod (Z : Int) = (r : Int) := by
                rw [← hd, Int.tmod_eq_emod_of_nonneg (by omega), ← Int.natCast_emod, Nat.add_comm, Nat.add_mul_mod_self_right, Nat.mod_eq_of_lt (by omega)]
              have t2 : ((d : Nat) : Int).tdiv (Z : Int) = (z : Int) := by
                rw [← hd, Int.tdiv_eq_ediv_of_nonneg (by omega), ← Int.natCast_ediv, Nat.add_comm, Nat.add_mul_div_right _ _ (by omega), Nat.div_eq_of_lt (by omega), Nat.zero_add]
              have w1' : IntKind.i64.wrap ((N : Int) * (Z : Int)) = (NZ : Int) := by
                rw [show (N : Int) * (Z : Int) = (NZ : Int) by rw [← hNZe, Int.natCast_mul], IntKind.wrap_i64]
                rw [hNZe] at hcl; omega
              have w2' : IntKind.i64.wrap (1024 + (NZ : Int)) = 1024 + (NZ : Int) := by
                rw [IntKind.wrap_i64]; rw [hNZe] at hcl; omega
              have w3' : IntKind.i64.wrap ((x : Int) - 1024) = (d : Int) := by rw [IntKind.wrap_i64]; omega
              have w4' : IntKind.i64.wrap (z : Int) = (z : Int) := by rw [IntKind.wrap_i64]; omega
              have e1 : decide ((x : Int) < 1024) = false := decide_eq_false (by omega)
              have e2 : decide (1024 + (NZ : Int) ≤ (x : Int)) = false := decide_eq_false (by rw [hNZe] at hNZ; omega)
              have e3 : decide ((8 : Int) ≤ (r : Int)) = false := decide_eq_false (by omega)
              have e4 : ((Z : Int) == 0) = false := by rw [beq_eq_false_iff_ne]; omega
              have e5 : ((Z : Int) == -1) = false := by rw [beq_eq_false_iff_ne]; omega
              have w5' : IntKind.i64.wrap ((x : Int) + 1) = ((x + 1 : Nat) : Int) := by rw [IntKind.wrap_i64]; omega
              have HX := Lib.hid hx1
              have HX2 := Lib.hid hlt2
              have hZ8 : 8 ≤ Z := hcl.1
              clear hxE hz1 hz2 hz3 hz4 hz5 hZ hcl hzN hNZ hNZe hr hr8 hd hxd hx1 hx2 Eq
              go_wp2_with fail
              go_quiet (fail)
              clear c5 c6 wsum
              have HBd := Lib.hid (fun a => up_drew HBq.out a)
              go_wp2_with (first
                | (go_at_call 28; refine (HSl.out _ (HBd.out _)).mono ?_; rintro e w' ⟨rfl, rfl⟩)
                | (go_at_call 29; refine (HZs.out _ (HBd.out _)).mono ?_; rintro e w' ⟨rfl, rfl⟩))
              refine (HIu.out _ (HBd.out _)).mono ?_
              rintro e w' ⟨rfl, rfl⟩
              clear HIu
              go_wp2_with fail
              refine (HIt.out _ (HBd.out _)).mono ?_
              rintro e w' ⟨rfl, rfl⟩
              clear HIt
              go_wp2_with fail
              go_roundw
              case rel => exact ⟨x + 1, by have := HX.out; omega, by have := HX2.out; omega, rfl, HBd.out _⟩
              case measure => have := HX2.out; simp [intOf]; omega
            · have dlt : decide ((x : Int) < (at_ : Int) + (nn : Int)) = false := decide_eq_false (by omega)
              clear hx1 hx2
              go_wp2_with fail
              go_quiet (fail)
              clear c5 c6 wsum
              go_wp2_with fail
              go_roundw
              case rel => exact ⟨k + 1, by omega, by go_num, up_drew HBq.out _⟩
              case measure => simp [intOf]; omega
        · obtain rfl : k = dn := by omega
          have j3 : decide ((k : Int) < (k : Int)) = false := decide_eq_false (by omega)
          go_wp2_with fail
          go_ret
          exact ⟨rfl, up_trans HBB.out (up_trans B1.out (up_trans E7.out.bel HBr.out))⟩
    · have d4 : (X.x != 4) = true := by simpa using hx4
      have HD := Lib.hid (HDone.out _ _ _ _ _ _ _ _ _ E4.out HX4.out HX100.out hx4)
      unfold Did at HD
      clear hx4 HX4 BX4
      go_wp2_with fail
      refine HD.out.mono ?_
      rintro e w5 ⟨⟨Ao, ko, co, rfl, -, -⟩, S', hS', E5, f5⟩
      have hkd := E4.out.sb.kinds
      have EZ : Hid (∃ S' L', Ev w1 w5 s q g 1024 c S' L' ∧ S'.bs.length = S.bs.length ∧ Wds 1024 c S.bs S'.bs L L') := ⟨S', _, E5, by rw [hS']; exact doB_len E4.out.ok Hc.out E4.out.sb.fit, by rw [hS']; exact wds_do Hc.out E4.out.sb.fit⟩
      have hl := HLt2.out
      have hqq := HQ.out
      have hml := M4.out.2.1.lt
      have MZ : Hid (Mem w5 q' w2.heap.size S.bs) := M4.out.of_blocks (f5.block q' M4.out.lt (by omega) (by omega)) (f5.block _ hml (by omega) (by omega))
      have LZ := Lib.hid (L4.out.fr f5 hkd.1 hkd.2.2 (by decide) (by decide))
      clear hS' E5 f5 hkd HD E4 M4 L4 c0 c1 c2 c3 hl hqq hml
      go_wp2_with fail
      obtain ⟨S2, L2, e5, hlen, hwd⟩ := EZ.out
      have E5 := Lib.hid e5
      have HLen := Lib.hid hlen
      have HWd := Lib.hid hwd
      have HTk := Lib.hid (ev_taken E5.out)
      rw [HNc.out] at HTk
      have hUle := tkn_le L2 N
      obtain ⟨un, hun⟩ : ∃ un, (tkn L2 N).length = un := ⟨_, rfl⟩
      have HUn := Lib.hid hun
      rw [hun] at HTk hUle
      clear EZ e5 hlen hwd hun
      refine HTk.out.mono ?_
      rintro e w6 ⟨⟨A2, cp2, rfl, l2⟩, b6⟩
      have E6 := Lib.hid (E5.out.below b6)
      have M6 := Lib.hid (MZ.out.below b6)
      have L6 := Lib.hid (LZ.out.below b6)
      have U6 := Lib.hid l2
      have HDf := Lib.hid (Ce.differ_any q g q' w2.heap.size S2.bs S.bs w6 E6.out.sb.mem M6.out)
      unfold Ce.Differs at HDf
      clear HTk b6 l2 E5 MZ LZ
      go_wp2_with fail
      refine HDf.out.mono ?_
      rintro e w7 ⟨A3, cp3, rfl, sp, b7⟩
      have E7 := Lib.hid (E6.out.below b7)
      have L7 := Lib.hid (L6.out.below b7)
      have U7 := Lib.hid (U6.out.below b7)
      have SP7 := Lib.hid sp
      have HUn2 := Lib.hid (diff_un (likeB S2.bs S.bs) (max S2.bs.length S.bs.length))
      have hdl := Ce.diffL_length (likeB S2.bs S.bs) (max S2.bs.length S.bs.length)
      have hb1 := E7.out.sb.bd
      have hE : max S2.bs.length S.bs.length ≤ 1048576 := by rw [← HLen.out]; omega
      have HE := Lib.hid hE
      have HLe := Lib.hid (diff_le (likeB S2.bs S.bs) (max S2.bs.length S.bs.length))
      generalize hD : diffL (likeB S2.bs S.bs) (max S2.bs.length S.bs.length) = D at *
      have HKey : Hid (∀ x, x < max S2.bs.length S.bs.length → likeB S2.bs S.bs x = false → ∃ k, k < N ∧ k ∉ L ∧ k ∈ L2 ∧ 1024 + k * zN c ≤ x ∧ x < 1024 + k * zN c + 8) := fun x h1 h2 => by
        have := HWd.out x (unlike HLen.out h1 h2)
        rw [HNc.out] at this
        exact this
      obtain ⟨dn, hdn⟩ : ∃ dn, D.length = dn := ⟨_, rfl⟩
      have HDn := Lib.hid hdn
      rw [hdn] at hdl ⊢
      have hdn2 : dn ≤ 1048577 := by omega
      clear HDf b7 sp E6 M6 L6 U6 hdl hb1 hE hD hdn
      go_wp2_with fail
      go_loopw [17] (fun i wr => ∃ k : Nat, k ≤ dn ∧ i = .int .i64 (k : Int) ∧ Below w7.heap.size w7 wr) (fun i _ => dn - (intOf i).toNat)
      case atStart => exact ⟨0, by omega, rfl, Below.refl _ _⟩
      case round =>
        obtain ⟨k, hk, rfl, hb⟩ := hrel
        have HBr := Lib.hid hb
        clear hb
        by_cases hlt : k < dn
        · have hkl : k < D.length := by rw [HDn.out]; exact hlt
          obtain ⟨g3, hA3, hg3, hcell⟩ := (SP7.out.below HBr.out) (by omega)
          obtain ⟨c5, c6⟩ := hcell k hkl
          obtain ⟨at_, hat⟩ : ∃ a, (D.getD k (0, 0)).1 = a := ⟨_, rfl⟩
          obtain ⟨nn, hnn⟩ : ∃ a, (D.getD k (0, 0)).2 = a := ⟨_, rfl⟩
          rw [hat] at c5
          rw [hnn] at c6
          have hmem : (at_, nn) ∈ D := by
            have : D.getD k (0, 0) = D[k] := by rw [List.getD_eq_getElem?_getD, List.getElem?_eq_getElem hkl]; rfl
            rw [← hat, ← hnn, this]
            exact List.getElem_mem hkl
          have HRow : Hid (∀ x, at_ ≤ x → x < at_ + nn → x < max S2.bs.length S.bs.length ∧ ∃ k, k < N ∧ k ∉ L ∧ k ∈ L2 ∧ 1024 + k * zN c ≤ x ∧ x < 1024 + k * zN c + 8) := fun x h1 h2 => by
            obtain ⟨h3, h4⟩ := HUn2.out _ hmem x h1 h2
            exact ⟨h4, HKey.out x h4 h3⟩
          have hbnd : at_ + nn ≤ 1048576 := Nat.le_trans (HLe.out _ hmem) HE.out
          have HAtb := Lib.hid hbnd
          have HC5 := Lib.hid c5
          have HC6 := Lib.hid c6
          have HG3 : Hid (g3 < w7.heap.size) := hg3
          have j1 : (0 : Int) ≤ (k : Int) := by omega
          have j2 : (k : Int) < (dn : Int) := by omega
          have j3 : decide ((k : Int) < (dn : Int)) = true := decide_eq_true j2
          subst hA3
          have HMem := Lib.hid hmem
          clear hkl hcell hat hnn hmem hg3 hbnd
          go_wp2_with fail
          clear c5 c6
          go_loopw [18] (fun i wq => ∃ x : Nat, at_ ≤ x ∧ x ≤ at_ + nn ∧ i = .int .i64 (x : Int) ∧ Below w7.heap.size w7 wq) (fun i _ => at_ + nn - (intOf i).toNat)
          case atStart => exact ⟨at_, by omega, by omega, rfl, HBr.out⟩
          case round =>
            obtain ⟨x, hx1, hx2, rfl, hbq⟩ := hrel
            have HBq := Lib.hid hbq
            have c5 := (HBq.out.cell (p := ⟨g3, k * 2, none⟩) HG3.out).trans ((HBr.out.cell (p := ⟨g3, k * 2, none⟩) HG3.out).symm.trans HC5.out)
            have c6 := (HBq.out.cell (p := ⟨g3, k * 2 + 1, none⟩) HG3.out).trans ((HBr.out.cell (p := ⟨g3, k * 2 + 1, none⟩) HG3.out).symm.trans HC6.out)
            have wsum : IntKind.i64.wrap ((at_ : Int) + (nn : Int)) = (at_ : Int) + (nn : Int) := by
              have := HAtb.out
              rw [IntKind.wrap_i64]; omega
            clear hbq
            by_cases hlt2 : x < at_ + nn
            · have dlt : decide ((x : Int) < (at_ : Int) + (nn : Int)) = true := decide_eq_true (by omega)
              obtain ⟨hxE, z, hz1, hz2, hz3, hz4, hz5⟩ := HRow.out x hx1 hlt2
              have Eq := Lib.hid (E7.out.below HBq.out)
              have HIu := Lib.hid (fun (V : World) (hV : Below w7.heap.size w7 V) => in_any (nats (tkn L2 N)) A2 cp2 un (z : Int) V (U7.out.below hV) (by rw [nats_len, HUn.out]) (by omega))
              have HIt := Lib.hid (fun (V : World) (hV : Below w7.heap.size w7 V) => in_any (nats (tkn L N)) A1 cp1 tn (z : Int) V (L7.out.below hV) (by rw [nats_len, HTn.out]) (by omega))
              rw [show decide ((z : Int) ∈ nats (tkn L2 N)) = false from decide_eq_false (fun e => (mem_tkn.1 (mem_nats.1 e)).2 hz3)] at HIu
              rw [show decide ((z : Int) ∈ nats (tkn L N)) = true from decide_eq_true (mem_nats.2 (mem_tkn.2 ⟨hz1, hz2⟩))] at HIt
              have HSl : Hid (∀ V : World, Below w7.heap.size w7 V → Calls Tryd.prog 28 #[.pointer (some ⟨s, 0, none⟩)] V fun e w' => e = .returned (.int .i64 (N : Int)) ∧ V = w') := fun V hV => by
                have := slots_any (E7.out.below hV).sb (E7.out.below hV).tb
                rw [HNc.out] at this
                exact this
              have HZs : Hid (∀ V : World, Below w7.heap.size w7 V → Calls Tryd.prog 29 #[.pointer (some ⟨s, 0, none⟩)] V fun e w' => e = .returned (.int .i64 (zN c : Int)) ∧ V = w') := fun V hV => size_any (E7.out.below hV).sb (E7.out.below hV).tb
              obtain ⟨Z, hZ⟩ : ∃ Z, zN c = Z := ⟨_, rfl⟩
              have hcl := cls c Hc.out
              rw [HNc.out, hZ] at hcl
              rw [hZ] at HZs hz4 hz5
              have hzN : z * Z + Z ≤ 1024 := by
                have := slot_in (k := z) Hc.out (by rw [HNc.out]; exact hz1)
                rwa [hZ] at this
              have hNZ : z * Z + Z ≤ N * Z := by
                have : (z + 1) * Z ≤ N * Z := Nat.mul_le_mul_right _ hz1
                rwa [Nat.succ_mul] at this
              obtain ⟨NZ, hNZe⟩ : ∃ NZ, N * Z = NZ := ⟨_, rfl⟩
              obtain ⟨r, hr⟩ : ∃ r, x = 1024 + z * Z + r := ⟨x - (1024 + z * Z), by omega⟩
              have hr8 : r < 8 := by omega
              obtain ⟨d, hd⟩ : ∃ d, z * Z + r = d := ⟨_, rfl⟩
              have hxd : x = 1024 + d := by omega
              have t1 : ((d : Nat) : Int).tmod (Z : Int) = (r : Int) := by
                rw [← hd, Int.tmod_eq_emod_of_nonneg (by omega), ← Int.natCast_emod, Nat.add_comm, Nat.add_mul_mod_self_right, Nat.mod_eq_of_lt (by omega)]
              have t2 : ((d : Nat) : Int).tdiv (Z : Int) = (z : Int) := by
                rw [← hd, Int.tdiv_eq_ediv_of_nonneg (by omega), ← Int.natCast_ediv, Nat.add_comm, Nat.add_mul_div_right _ _ (by omega), Nat.div_eq_of_lt (by omega), Nat.zero_add]
              have w1' : IntKind.i64.wrap ((N : Int) * (Z : Int)) = (NZ : Int) := by
                rw [show (N : Int) * (Z : Int) = (NZ : Int) by rw [← hNZe, Int.natCast_mul], IntKind.wrap_i64]
                rw [hNZe] at hcl; omega
              have w2' : IntKind.i64.wrap (1024 + (NZ : Int)) = 1024 + (NZ : Int) := by
                rw [IntKind.wrap_i64]; rw [hNZe] at hcl; omega
              have w3' : IntKind.i64.wrap ((x : Int) - 1024) = (d : Int) := by rw [IntKind.wrap_i64]; omega
              have w4' : IntKind.i64.wrap (z : Int) = (z : Int) := by rw [IntKind.wrap_i64]; omega
              have e1 : decide ((x : Int) < 1024) = false := decide_eq_false (by omega)
              have e2 : decide (1024 + (NZ : Int) ≤ (x : Int)) = false := decide_eq_false (by rw [hNZe] at hNZ; omega)
              have e3 : decide ((8 : Int) ≤ (r : Int)) = false := decide_eq_false (by omega)
              have e4 : ((Z : Int) == 0) = false := by rw [beq_eq_false_iff_ne]; omega
              have e5 : ((Z : Int) == -1) = false := by rw [beq_eq_false_iff_ne]; omega
              have w5' : IntKind.i64.wrap ((x : Int) + 1) = ((x + 1 : Nat) : Int) := by rw [IntKind.wrap_i64]; omega
              have HX := Lib.hid hx1
              have HX2 := Lib.hid hlt2
              have hZ8 : 8 ≤ Z := hcl.1
              clear hxE hz1 hz2 hz3 hz4 hz5 hZ hcl hzN hNZ hNZe hr hr8 hd hxd hx1 hx2 Eq
              go_wp2_with fail
              go_quiet (fail)
              clear c5 c6 wsum
              have HBd := Lib.hid (fun a => up_drew HBq.out a)
              go_wp2_with (first
                | (go_at_call 28; refine (HSl.out _ (HBd.out _)).mono ?_; rintro e w' ⟨rfl, rfl⟩)
                | (go_at_call 29; refine (HZs.out _ (HBd.out _)).mono ?_; rintro e w' ⟨rfl, rfl⟩))
              refine (HIu.out _ (HBd.out _)).mono ?_
              rintro e w' ⟨rfl, rfl⟩
              clear HIu
              go_wp2_with fail
              refine (HIt.out _ (HBd.out _)).mono ?_
              rintro e w' ⟨rfl, rfl⟩
              clear HIt
              go_wp2_with fail
              go_roundw
              case rel => exact ⟨x + 1, by have := HX.out; omega, by have := HX2.out; omega, rfl, HBd.out _⟩
              case measure => have := HX2.out; simp [intOf]; omega
            · have dlt : decide ((x : Int) < (at_ : Int) + (nn : Int)) = false := decide_eq_false (by omega)
              clear hx1 hx2
              go_wp2_with fail
              go_quiet (fail)
              clear c5 c6 wsum
              go_wp2_with fail
              go_roundw
              case rel => exact ⟨k + 1, by omega, by go_num, up_drew HBq.out _⟩
              case measure => simp [intOf]; omega
        · obtain rfl : k = dn := by omega
          have j3 : decide ((k : Int) < (k : Int)) = false := decide_eq_false (by omega)
          go_wp2_with fail
          go_ret
          exact ⟨rfl, up_trans HBB.out (up_trans B1.out (up_trans E7.out.bel HBr.out))⟩
end Go.Proofs.YtaelfgdiboekpaaDoor.Ns
