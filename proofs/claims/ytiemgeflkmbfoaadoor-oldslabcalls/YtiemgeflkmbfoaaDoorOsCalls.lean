/-
  The walk of the statement on rows of calls.
-/
import Derived.Test.YtiemgeflkmbfoaaDoorOsCalls1
namespace Go.Proofs.YtiemgeflkmbfoaaDoor.Os
set_option maxRecDepth 100000
open Go.RowKit
open Ta (sz szs classB classB_iff classB_not sizeOf' slotsOf)
open Bi (sets bt on first setL setB tst hasB u Blk Drawn grown_refl grown_trans grown_below up_alloc up_drew up_trans i64_in ret_i ret_b brow)

section
variable {w w' : World} {P A : Option Addr} {l : List Cl} {b c : Int} {n cap m cp : Nat} {xs : List Int}
theorem rd_of_rs {R gl : Nat} {l : List Bool} (h : Rs w R gl b c l) : Rd w R gl b c l := ⟨⟨_, h.blk⟩, ⟨[], by rw [List.append_nil]; exact h.row⟩, h.hb, h.hc, h.len⟩
/-- A list stays where two other blocks change. -/
theorem at_fr {A' : Option Addr} {X : List Int} {i j : Nat} (h : At w.heap.size w A' (ints X)) (hf : Fr i j w w') (hn : ∀ g o, A' = some ⟨g, o, none⟩ → g ≠ i ∧ g ≠ j) : At w'.heap.size w' A' (ints X) := fun hp => by
  obtain ⟨g, o, e, hl, hc⟩ := h hp
  obtain ⟨n1, n2⟩ := hn g o e
  have := hf.size
  exact ⟨g, o, e, by omega, fun k v hv => (Bi.cell_of_block (hf.block g hl n1 n2)).trans (hc k v hv)⟩
set_option maxHeartbeats 16000000 in
theorem calls_main (hT : Tb w) (hC : CA w P l) (hm : l.length = m) (hI : In w A n cap xs) (hg : greatB l = false) (hn : n ≤ 200) (hb : baseB b = true) (hc : classB c = true) : Calls Tryd.prog 3 #[.int .i64 b, .int .i64 c, .slice A n cap, .slice P m cp] w fun e w' => e = .returned (.bool true) ∧ Below w.heap.size w w' := by
  have HA := Lib.hid (alive_any w hT)
  have HG := Lib.hid (fun (V : World) (hV : Below w.heap.size w V) => great_any m cp (hC.up hV) hm)
  have HCp := Lib.hid (fun (V : World) (hV : Below w.heap.size w V) => copyints_any V A n cap xs (hI.up hV) (by omega))
  have HW := Lib.hid (fun (V : World) (hV : Below w.heap.size w V) (g cp : Nat) (hA' : At V.heap.size V (some ⟨g, 0, none⟩) (ints xs)) => with_yes (b := b) (c := c) (some ⟨g, 0, none⟩) n cp xs hA' hI.len (by omega) (hT.below hV) hb hc)
  have HN := Lib.hid (fun (V : World) (hV : Below w.heap.size w V) => new_yes (b := b) (c := c) (hT.below hV) hb hc)
  have HDW := Lib.hid (fun (V : World) (hV : Below w.heap.size w V) => dwith_yes (w := V) (b := b) (c := c) (A := A) (n := n) (cap := cap) (at_ia (hI.up hV).ia) hI.len (by omega) hb hc)
  have HDN := Lib.hid (fun (V : World) => rnew_yes (w := V) hb hc)
  unfold GaveN at HN
  unfold GaveR at HDN
  have d0 : decide ((200 : Int) < (n : Int)) = false := by simp; omega
  rw [hg] at HG
  have HGn := Lib.hid (great_no hg)
  have HCA := Lib.hid hC
  have HM := Lib.hid hm
  have HT := Lib.hid hT
  have hm200 : m ≤ 200 := by rw [← hm]; exact (great_no hg).1
  clear hT hC hm hI hg hn hb hc
  go_enter Tryd.func3, Tryd.ntmps3
  go_wp2_with (first
    | (go_at_call 7; refine HA.out.mono ?_; rintro e w1 ⟨rfl, b1⟩; have B1 := Lib.hid b1; clear b1)
    | (go_at_call 8; refine (HG.out _ B1.out).mono ?_; rintro e w' ⟨rfl, rfl⟩)
    | (go_at_call 10; refine (HCp.out _ B1.out).mono ?_; rintro e w2 ⟨g2, c2, rfl, at2, -, b2⟩; have B2 := Lib.hid (up_trans B1.out b2); have AT2 := Lib.hid at2; clear b2 at2))
  refine (HW.out _ B2.out _ _ AT2.out).mono ?_
  rintro e w3 ⟨b3, h3⟩
  have B3 := Lib.hid (up_trans B2.out b3)
  have Z2 := Lib.hid B2.out.size
  clear b3 AT2 HG HCp HW
  rcases h3 with ⟨f1, s, q, g, rfl, s3, hs3, hg3⟩ | ⟨f1, rfl⟩
  · have F1 := Lib.hid f1
    have S3 := Lib.hid s3
    have hsg : Hid (w.heap.size ≤ s ∧ w.heap.size ≤ g) := ⟨Nat.le_trans Z2.out hs3, Nat.le_trans Z2.out hg3⟩
    clear f1 s3 hs3 hg3
    go_wp2_with fail
    refine (HDW.out _ B3.out).mono ?_
    rintro e w4 ⟨b4, h4⟩
    rcases h4 with ⟨_, R, gl, rfl, r4, hR4, hl4⟩ | ⟨f2, _⟩
    rotate_left
    · rw [F1.out] at f2; cases f2
    have B4 := Lib.hid (up_trans B3.out b4)
    have S4 := Lib.hid (S3.out.below b4)
    have R4 := Lib.hid r4
    have Z3 := B3.out.size
    have hRl : Hid (w.heap.size ≤ R ∧ w.heap.size ≤ gl) := ⟨Nat.le_trans Z3 hR4, Nat.le_trans Z3 hl4⟩
    clear b4 r4 hR4 hl4 S3 HDW Z3
    go_wp2_with fail
    refine (HN.out _ B4.out).mono ?_
    rintro e w5 ⟨b5, s', q', g', rfl, n5, -, -⟩
    have B5 := Lib.hid (up_trans B4.out b5)
    have S5 := Lib.hid (S4.out.below b5)
    have R5 := Lib.hid (R4.out.below b5)
    have N5 := Lib.hid n5
    clear b5 n5 S4 R4
    go_wp2_with fail
    refine (HDN.out _).mono ?_
    rintro e w6 ⟨b6, R', gl', rfl, d6, -, -⟩
    have B6 := Lib.hid (up_trans B5.out b6)
    have S6 := Lib.hid (S5.out.below b6)
    have R6 := Lib.hid (R5.out.below b6)
    have HAg := Lib.hid (agree_any (N5.out.below b6) (rd_of_rs d6) (HT.out.below B6.out))
    clear b6 d6 S5 R5 N5 HDN HN
    go_wp2_with fail
    refine HAg.out.mono ?_
    rintro e w7 ⟨rfl, b7⟩
    have B7 := Lib.hid (up_trans B6.out b7)
    have S7 := Lib.hid (S6.out.below b7)
    have R7 := Lib.hid (R6.out.below b7)
    have HAg2 := Lib.hid (agree_any S7.out R7.out (HT.out.below B7.out))
    clear b7
    go_wp2_with fail
    refine HAg2.out.mono ?_
    rintro e w8 ⟨rfl, b8⟩
    have B8 := Lib.hid (up_trans B7.out b8)
    have S8 := Lib.hid (S7.out.below b8)
    have R8 := Lib.hid (R7.out.below b8)
    clear b8 S7 R7 HAg HAg2 S6 R6
    go_wp2_with fail
    go_loopw [17] (fun i wr => ∃ (k : Nat) (lk : List Bool) (qk gk glk : Nat), k ≤ m ∧ i = .int .i64 k ∧ Sl wr s qk gk b c lk ∧ Rd wr R glk b c lk ∧ w.heap.size ≤ gk ∧ w.heap.size ≤ glk ∧ Below w.heap.size w wr) (fun i _ => m - (intOf i).toNat)
    case atStart => exact ⟨0, _, _, _, _, by omega, rfl, S8.out, R8.out, hsg.out.2, hRl.out.2, B8.out⟩
    case round =>
      obtain ⟨k, lk, qk, gk, glk, hk, rfl, hs, hd, hgk, hglk, hbel⟩ := hrel
      have HS := Lib.hid hs
      have HD := Lib.hid hd
      have HB := Lib.hid hbel
      have HGk : Hid (w.heap.size ≤ gk ∧ w.heap.size ≤ glk) := ⟨hgk, hglk⟩
      have HTr := Lib.hid (HT.out.below hbel)
      clear hs hd hgk hglk S8 R8
      by_cases hlt : k < m
      · have hkl : k < l.length := by rw [HM.out]; exact hlt
        obtain ⟨bb, oo, rfl, hbb, c0, c1, c2, hin, hia⟩ := (HCA.out.up hbel) k hkl
        have hn200 := HGn.out.2 k hkl
        obtain ⟨cl, hcl⟩ : ∃ cl, l[k] = cl := ⟨_, rfl⟩
        rw [hcl] at c0 c1 c2 hin hia hn200
        obtain ⟨x, a, A2, n2, cp2, xs2⟩ := cl
        dsimp only at c0 c1 c2 hin hia hn200
        have HDo := Lib.hid (done_any x a A2 n2 cp2 xs2 hia hin (by omega) HS.out HTr.out)
        have hol := outO_len b (sizeOf' c) lk x a HS.out.len_le.2
        obtain ⟨X, hX⟩ : ∃ X, outO b (sizeOf' c) lk x a = X := ⟨_, rfl⟩
        obtain ⟨E, hE⟩ : ∃ E, outE b (sizeOf' c) lk x a xs2 = E := ⟨_, rfl⟩
        obtain ⟨L2, hL2⟩ : ∃ L2, outL b (sizeOf' c) lk x a xs2 = L2 := ⟨_, rfl⟩
        obtain ⟨lx, hlx⟩ : ∃ lx, X.length = lx := ⟨_, rfl⟩
        have HXE : Hid (outO b (sizeOf' c) lk x a = X ∧ outE b (sizeOf' c) lk x a xs2 = E ∧ outL b (sizeOf' c) lk x a xs2 = L2) := ⟨hX, hE, hL2⟩
        have HLX := Lib.hid hlx
        rw [hX, hE, hL2, hlx] at HDo
        rw [hX, hlx] at hol
        have HIn := Lib.hid hin
        have hCl : Hid ((some (⟨bb, oo, none⟩ : Addr)) = some ⟨bb, oo, none⟩ ∧ bb < wr.heap.size ∧ wr.cell? ⟨bb, oo + k * 3, none⟩ = some (.int .i64 x) ∧ wr.cell? ⟨bb, oo + k * 3 + 1, none⟩ = some (.int .i64 a) ∧ wr.cell? ⟨bb, oo + k * 3 + 2, none⟩ = some (.slice A2 n2 cp2)) := ⟨rfl, hbb, c0, c1, c2⟩
        have HCl2 : Hid (∀ V, Below w.heap.size w V → V.cell? ⟨bb, oo + k * 3, none⟩ = some (.int .i64 x) ∧ V.cell? ⟨bb, oo + k * 3 + 1, none⟩ = some (.int .i64 a) ∧ V.cell? ⟨bb, oo + k * 3 + 2, none⟩ = some (.slice A2 n2 cp2) ∧ In V A2 n2 cp2 xs2) := fun V hV => by
          obtain ⟨b', o', e, _, d0, d1, d2, din, _⟩ := (HCA.out.up hV) k hkl
          cases e
          rw [hcl] at d0 d1 d2 din
          exact ⟨d0, d1, d2, din⟩
        have j1 : (0 : Int) ≤ (k : Int) := by omega
        have j2 : (k : Int) < (m : Int) := by omega
        have hlt2 : decide ((k : Int) < (m : Int)) = true := by simpa using hlt
        have hEE : (E != E) = false := by simp
        unfold callV at HDo
        clear hkl hbel hX hE hL2 hlx hin hia hbb hcl hCl
        go_wp2_with fail
        refine HDo.out.mono ?_
        rintro e w9 ⟨A9, c9, rfl, at9, fr9, h9⟩
        have hkd := HS.out.kinds
        have hrd := HD.out.kinds
        have D9 := Lib.hid (HD.out.far h9.fr hkd.1 hkd.2.2 (by decide) (by decide))
        have B9 : Hid (Below w.heap.size w w9) := HB.out.trans (h9.fr.below hsg.out.1 HGk.out.1 HB.out.size)
        have FR9 := Lib.hid fr9
        have AT9 := Lib.hid at9
        have T9 := Lib.hid (h9.tb HS.out HTr.out)
        obtain ⟨q9, g9, s9, f9, e9⟩ := h9
        have S9 := Lib.hid s9
        have hszr := HB.out.size
        have HG9 : Hid (w.heap.size ≤ g9) := by
          show _ ≤ _
          rcases e9 with e | e
          · rw [e]; exact HGk.out.1
          · omega
        obtain ⟨y0, y1, y2, yin⟩ := HCl2.out _ B9.out
        have HMa := Lib.hid (many_any x a A2 n2 cp2 xs2 yin (by omega) D9.out)
        rw [HXE.out.1, HXE.out.2.1, HXE.out.2.2, HLX.out] at HMa
        unfold callV at HMa
        have hRlt := HD.out.lt
        clear at9 fr9 s9 f9 e9 HDo c0 c1 c2 hkd hrd yin
        go_wp2_with fail
        refine HMa.out.mono ?_
        rintro e w10 ⟨A10, c10, rfl, at10, h10⟩
        have hkd := D9.out.kinds
        have S10 := Lib.hid (S9.out.far h10.fr hkd.1 hkd.2 (by decide) (by decide))
        have B10 : Hid (Below w.heap.size w w10) := B9.out.trans (h10.fr.below hRl.out.1 HGk.out.2 B9.out.size)
        have AT10 := Lib.hid at10
        have AT9' : Hid (At w10.heap.size w10 A9 (ints X)) := at_fr AT9.out h10.fr (fun g' o' e => by have := FR9.out g' o' e; omega)
        obtain ⟨g10, d10, f10, e10⟩ := h10
        have D10 := Lib.hid d10
        have hsz9 := B9.out.size
        have HG10 : Hid (w.heap.size ≤ g10) := by
          show _ ≤ _
          rcases e10 with e | e
          · rw [e]; exact HGk.out.2
          · omega
        have T10 := Lib.hid (HT.out.below B10.out)
        have HSI := Lib.hid (sameints_any X A9 A10 c9 c10 lx lx w10 AT9'.out AT10.out (by rw [HLX.out]; omega) HLX.out HLX.out)
        clear at10 d10 f10 e10 HMa y0 y1 y2 hkd
        go_wp2_with (first
          | (go_at_call 17; refine HSI.out.mono ?_; rintro e w11 ⟨rfl, b11⟩; have B11 := Lib.hid (up_trans B10.out b11); have S11 := Lib.hid (S10.out.below b11); have D11 := Lib.hid (D10.out.below b11); have HAg := Lib.hid (agree_any S11.out D11.out (T10.out.below b11)); clear b11)
          | (go_at_call 14; refine HAg.out.mono ?_; rintro e w12 ⟨rfl, b12⟩; have B12 := Lib.hid (up_trans B11.out b12); have S12 := Lib.hid (S11.out.below b12); have D12 := Lib.hid (D11.out.below b12); clear b12))
        go_roundw
        case rel => exact ⟨k + 1, L2, q9, g9, g10, by omega, by go_num, S12.out, D12.out, HG9.out, HG10.out, B12.out⟩
        case measure => simp [intOf]; omega
      · obtain rfl : k = m := by omega
        have hlt2 : decide ((k : Int) < (k : Int)) = false := by simp
        clear hbel
        go_wp2_with fail
        go_ret
        exact ⟨rfl, HB.out⟩
  · have F1 := Lib.hid f1
    clear f1
    go_wp2_with fail
    refine (HDW.out _ B3.out).mono ?_
    rintro e w4 ⟨b4, h4⟩
    rcases h4 with ⟨f2, _⟩ | ⟨_, rfl⟩
    · rw [F1.out] at f2; cases f2
    have B4 := Lib.hid (up_trans B3.out b4)
    clear b4 HDW
    go_wp2_with fail
    refine (HN.out _ B4.out).mono ?_
    rintro e w5 ⟨b5, s', q', g', rfl, n5, -, -⟩
    have B5 := Lib.hid (up_trans B4.out b5)
    have N5 := Lib.hid n5
    clear b5 n5
    go_wp2_with fail
    refine (HDN.out _).mono ?_
    rintro e w6 ⟨b6, R', gl', rfl, d6, -, -⟩
    have B6 := Lib.hid (up_trans B5.out b6)
    have HAg := Lib.hid (agree_any (N5.out.below b6) (rd_of_rs d6) (HT.out.below B6.out))
    clear b6 d6 N5 HDN HN
    go_wp2_with fail
    refine HAg.out.mono ?_
    rintro e w7 ⟨rfl, b7⟩
    have B7 := Lib.hid (up_trans B6.out b7)
    clear b7
    go_wp2_with fail
    go_ret
    exact ⟨rfl, B7.out⟩
theorem law_calls (hT : Tb w) (hC : CA w P l) (hm : l.length = m) (hI : In w A n cap xs) : Calls Tryd.prog 3 #[.int .i64 b, .int .i64 c, .slice A n cap, .slice P m cp] w fun e w' => e = .returned (.bool true) ∧ Below w.heap.size w w' := by
  cases hg : greatB l with
  | true => exact calls_many hT hC hm (.inl hg)
  | false =>
    by_cases hn : n ≤ 200
    · cases hbc : (baseB b && classB c) with
      | false => exact calls_class hT hC hm hI hg hn hbc
      | true =>
        rw [Bool.and_eq_true] at hbc
        exact calls_main hT hC hm hI hg hn hbc.1 hbc.2
    · exact calls_many hT hC hm (.inr ⟨hg, by omega⟩)
end
end Go.Proofs.YtiemgeflkmbfoaaDoor.Os
