/-
  A clone: contracts that the claimed proofs use.
-/
import Derived.Test.YtjnknnakllbaaaaGreatGrCopy
import Derived.Test.YtjnknnakllbaaaaGreatGrAsk
namespace Go.Proofs.YtjnknnakllbaaaaGreat.Gr
set_option maxRecDepth 100000
open Go.RowKit
theorem gv_wf {N : Int} {L : List Sp.Rn} (h : Sp.WF N L) (h1 : Sp.WF N (L.map tr)) : ∀ {i : Nat}, i ≤ L.length → Sp.WF N (Gv L i)
  | 0, _ => by rw [gv_zero]; exact h1
  | i + 1, hi => by
    have ih := gv_wf h h1 (i := i) (by omega)
    cases ht : (Sp.el L i).t with
    | true => rw [gv_skip (by omega) ht]; exact ih
    | false =>
      rw [← gv_step h (by omega) ht]
      exact Sp.give_wf ih (by rw [gv_length]; omega) (by rw [gv_el (by omega)]; rfl)
theorem tk_wf {N : Int} {L : List Sp.Rn} (h : Sp.WF N L) (h0 : 0 ≤ N) (h1 : N ≤ 4096) : ∀ {i : Nat}, i ≤ L.length → Sp.WF N (Tk N L i)
  | 0, _ => by rw [tk_zero h h0]; exact Sp.new_wf h0
  | i + 1, hi => by rw [← tk_step h (by omega) h1]; exact Sp.tk_wf (tk_wf h h0 h1 (by omega)) _ _
set_option maxHeartbeats 2000000 in
theorem copy_any {w : World} {q g : Nat} {N : Int} {L : List Sp.Rn} (h : Sp.Sp w q g L) (hw : Sp.WF N L) (h0 : 0 ≤ N) (h1 : N ≤ 4096) : Calls Tryz.prog 63 #[.pointer (some ⟨q, 0, none⟩), .int .i64 N] w fun e w' =>
    ∃ q' g', e = .returned (.pointer (some ⟨q', 0, none⟩)) ∧ Sp.Sp w' q' g' L ∧ w.heap.size ≤ q' ∧ w.heap.size ≤ g' ∧ Below w.heap.size w w' := by
  have HS := Lib.hid h
  have HNew := Lib.hid (Sp.new_yes N w h0 h1)
  have HTw := Lib.hid (fun i (hi : i ≤ L.length) => tk_wf hw h0 h1 hi)
  have h2 : Sp.WF N (L.map tr) := by have := tk_wf hw h0 h1 (Nat.le_refl L.length); rwa [tk_len] at this
  have HGw := Lib.hid (fun i (hi : i ≤ L.length) => gv_wf hw h2 hi)
  have HTs := Lib.hid (fun i (hi : i < L.length) => tk_step hw hi h1)
  have HGs := Lib.hid (fun i (hi : i < L.length) (ht : (Sp.el L i).t = false) => gv_step hw hi ht)
  have hT0 : Sp.newL N = Tk N L 0 := (tk_zero hw h0).symm
  rw [hT0] at HNew
  have hlen := hw.len
  obtain ⟨M, hM⟩ : ∃ M, L.length = M := ⟨_, rfl⟩
  have HM := Lib.hid hM
  have hMl : M ≤ 4096 := by omega
  have HN : Hid (N ≤ 4096) := h1
  clear h hw h0 h1 h2 hT0 hlen hM
  go_enter Tryz.func63, Tryz.ntmps63
  go_wp2_with fail
  refine HNew.out.mono ?_
  rintro e w1 ⟨q', g0, rfl, s1, a1, a2, b1⟩
  have HR := Lib.hid (Sp.runs_any (HS.out.below b1) (by rw [HM.out]; omega))
  unfold Sp.GaveR at HR
  rw [HM.out] at HR
  have HB1 := Lib.hid b1
  have HA : Hid (w.heap.size ≤ q' ∧ w.heap.size ≤ g0) := ⟨a1, a2⟩
  have HS1 := Lib.hid s1
  have hl1 := s1.lt.1
  have hl2 := s1.lt.2
  clear b1 a1 a2 s1
  go_wp2_with fail
  refine HR.out.mono ?_
  rintro e w2 ⟨g1, cap1, rfl, rw2, hg1, b2⟩
  have HB2 := Lib.hid (up_trans HB1.out b2)
  have HRw := Lib.hid rw2
  have hg2 := rw2.lt
  have hsz := b2.size
  have HS2 := Lib.hid (HS1.out.below b2)
  clear rw2 b2 HR HS1 HB1
  go_wp2_with fail
  go_loopw [21] (fun x wr => ∃ (i g' : Nat), i ≤ M ∧ x = .int .i64 i ∧ Sp.Sp wr q' g' (Tk N L i) ∧ (g' = g0 ∨ w2.heap.size ≤ g') ∧ Sp.Fr q' g0 w2 wr) (fun x _ => M - (intOf x).toNat)
  case atStart => exact ⟨0, g0, by omega, rfl, HS2.out, .inl rfl, Sp.Fr.refl _ _ _⟩
  case round =>
    obtain ⟨i, g', hi, rfl, hs, hgg, hf⟩ := hrel
    have HSi := Lib.hid hs
    have HF := Lib.hid hf
    have HG := Lib.hid hgg
    clear hs hf hgg
    have hrw : Sp.Rw wr g1 cap1 L := HRw.out.of (HF.out.block g1 hg2 (by omega) (by omega))
    by_cases hlt : i < M
    · have hil : i < L.length := by rw [HM.out]; exact hlt
      obtain ⟨r0, r1, r2⟩ := hrw.cells hil
      have bz := up_alloc (Below.refl wr.heap.size wr) (.cells #[.int .i64 (Sp.el L i).p, .int .i64 (Sp.el L i).n, .bool (Sp.el L i).t] 107)
      have HTk := Lib.hid (Sp.take1_any (Sp.el L i).n (HSi.out.below bz) (HTw.out i (by rw [HM.out]; exact hi)) HN.out)
      rw [HTs.out i hil] at HTk
      have j1 : (0 : Int) ≤ (i : Int) := by omega
      have j2 : (i : Int) < (M : Int) := by omega
      generalize Sp.tkv (Tk N L i) (Sp.el L i).n 1 = v1 at HTk
      generalize Sp.tke (Tk N L i) (Sp.el L i).n 1 = v2 at HTk
      have HBz : Hid (Below wr.heap.size wr (wr.alloc (.cells #[.int .i64 (Sp.el L i).p, .int .i64 (Sp.el L i).n, .bool (Sp.el L i).t] 107))) := bz
      clear hrw bz
      generalize Sp.el L i = x at *
      obtain ⟨xp, xn, xt⟩ := x
      dsimp only at *
      go_wp2_with fail
      refine HTk.out.mono ?_
      rintro e w5 ⟨rfl, g5, s5, f5, o5⟩
      have HS5 := Lib.hid s5
      have hz5 := HF.out.size
      have hz6 := HBz.out.size
      have HG5 : Hid (g5 = g0 ∨ w2.heap.size ≤ g5) := by
        rcases o5 with e | e
        · rw [e]; exact HG.out
        · exact .inr (by omega)
      have HF5 : Hid (Sp.Fr q' g0 w2 w5) := (HF.out.trans (Sp.Fr.of HBz.out : Sp.Fr q' g0 _ _) (.inl rfl)).trans f5 HG.out
      clear s5 f5 o5 HTk r0 r1 r2
      go_wp2_with fail
      go_roundw
      case rel => exact ⟨i + 1, g5, by omega, by go_num, HS5.out, HG5.out, HF5.out⟩
      case measure => simp [intOf]; omega
    · obtain rfl : i = M := by omega
      have hSi := HSi.out
      rw [← HM.out, tk_len, ← gv_zero] at hSi
      have HS3 := Lib.hid hSi
      clear hSi HTw HTs hlt hi HSi hrw HS2
      go_wp2_with fail
      go_loopw [32] (fun x wr => ∃ (j g' : Nat), j ≤ i ∧ x = .int .i64 j ∧ Sp.Sp wr q' g' (Gv L j) ∧ (g' = g0 ∨ w2.heap.size ≤ g') ∧ Sp.Fr q' g0 w2 wr) (fun x _ => i - (intOf x).toNat)
      case atStart => exact ⟨0, g', by omega, rfl, HS3.out, HG.out, HF.out⟩
      case round =>
        obtain ⟨j, g4, hj, rfl, hs, hgg, hf⟩ := hrel
        have HSj := Lib.hid hs
        have HFj := Lib.hid hf
        have HGj := Lib.hid hgg
        clear hs hf hgg
        have hrw : Sp.Rw wr g1 cap1 L := HRw.out.of (HFj.out.block g1 hg2 (by omega) (by omega))
        by_cases hlt : j < i
        · have hjl : j < L.length := by rw [HM.out]; exact hlt
          obtain ⟨r0, r1, r2⟩ := hrw.cells hjl
          have bz := up_alloc (Below.refl wr.heap.size wr) (.cells #[.int .i64 (Sp.el L j).p, .int .i64 (Sp.el L j).n, .bool (Sp.el L j).t] 107)
          have HBz : Hid (Below wr.heap.size wr (wr.alloc (.cells #[.int .i64 (Sp.el L j).p, .int .i64 (Sp.el L j).n, .bool (Sp.el L j).t] 107))) := bz
          have hz5 := HFj.out.size
          have j1 : (0 : Int) ≤ (j : Int) := by omega
          have j2 : (j : Int) < (i : Int) := by omega
          cases ht : (Sp.el L j).t with
          | true =>
            have hsk := gv_skip hjl ht
            have HS5 : Hid (Sp.Sp (wr.alloc (.cells #[.int .i64 (Sp.el L j).p, .int .i64 (Sp.el L j).n, .bool (Sp.el L j).t] 107)) q' g4 (Gv L (j + 1))) := by rw [hsk]; exact HSj.out.below bz
            have HF5 : Hid (Sp.Fr q' g0 w2 (wr.alloc (.cells #[.int .i64 (Sp.el L j).p, .int .i64 (Sp.el L j).n, .bool (Sp.el L j).t] 107))) := HFj.out.trans (Sp.Fr.of bz : Sp.Fr q' g0 _ _) (.inl rfl)
            rw [ht] at r2 HS5 HF5
            clear hsk bz hrw HBz
            generalize (Sp.el L j).p = xp at *
            generalize (Sp.el L j).n = xn at *
            clear ht
            go_wp2_with fail
            go_roundw
            case rel => exact ⟨j + 1, g4, by omega, by go_num, HS5.out, HGj.out, HF5.out⟩
            case measure => simp [intOf]; omega
          | false =>
            have hst := HGs.out j hjl ht
            have hel := gv_el hjl
            have HGv := Sp.give_yes (x := (Sp.el L j).p) (HSj.out.below bz) (HGw.out j (by rw [HM.out]; omega)) HN.out (k := j) (by rw [gv_length]; exact hjl) (by rw [hel]; rfl) (by rw [hel]; rfl)
            rw [hst, hel] at HGv
            have HGv := Lib.hid HGv
            rw [ht] at r2 HGv HBz
            have ee : (tr (Sp.el L j)).n = (Sp.el L j).n := rfl
            rw [ee] at HGv
            clear hst hel bz hrw ee
            generalize (Sp.el L j).p = xp at *
            generalize (Sp.el L j).n = xn at *
            clear ht
            go_wp2_with fail
            refine HGv.out.mono ?_
            rintro e w5 ⟨rfl, s5, f5⟩
            have HS5 := Lib.hid s5
            have HF5 : Hid (Sp.Fr q' g0 w2 w5) := (HFj.out.trans (Sp.Fr.of HBz.out : Sp.Fr q' g0 _ _) (.inl rfl)).trans f5 HGj.out
            clear s5 f5 HGv r0 r1 r2
            go_wp2_with fail
            go_roundw
            case rel => exact ⟨j + 1, g4, by omega, by go_num, HS5.out, HGj.out, HF5.out⟩
            case measure => simp [intOf]; omega
        · obtain rfl : j = i := by omega
          have hSj := HSj.out
          rw [← HM.out, gv_len] at hSj
          have HSe := Lib.hid hSj
          have HBe := Lib.hid (HB2.out.trans (HFj.out.below HA.out.1 HA.out.2 HB2.out.size))
          have hge : w.heap.size ≤ g4 := by
            have := HB2.out.size
            rcases HGj.out with e | e
            · rw [e]; exact HA.out.2
            · omega
          clear hSj hrw
          go_wp2_with fail
          go_ret
          exact ⟨q', g4, rfl, HSe.out, HA.out.1, hge, HBe.out⟩
set_option maxHeartbeats 2000000 in
theorem clone_any {w : World} {q : Nat} {p : Pl} {N t : Int} {L : List Sp.Rn} {f : Ra.Ws} {S : List Le.Row} {bs : List (BitVec 8)} (h : Gm w q p N L f t S bs) : Calls Tryz.prog 33 #[.pointer (some ⟨q, 0, none⟩)] w fun e w' =>
    ∃ q' p', e = .returned (.pointer (some ⟨q', 0, none⟩)) ∧ Gm w' q' p' N L f t S bs ∧ w.heap.size ≤ q' ∧ Fresh w.heap.size p' ∧ Below w.heap.size w w' := by
  have HH := Lib.hid h
  have SB := Lib.hid (fun (V : World) (hV : Below w.heap.size w V) => (h.below hV).gx.cells)
  have HPg := Lib.hid (fun (V : World) (hV : Below w.heap.size w V) => pages_any (h.below hV))
  have HCp := Lib.hid (fun (V : World) (hV : Below w.heap.size w V) => copy_any (h.below hV).gx.sp h.inv.wf h.inv.n0 h.inv.n1)
  have HRa := Lib.hid (fun (V : World) (hV : Below w.heap.size w V) => Ra.clone_any (h.below hV).gx.mp)
  have HLe := Lib.hid (fun (V : World) (hV : Below w.heap.size w V) => Le.clone_any (h.below hV).gx.led)
  have HCe := Lib.hid (fun (V : World) (hV : Below w.heap.size w V) => Ce.clone_any p.qc p.gc bs V (h.below hV).gx.mem)
  unfold Ce.Cloned at HCe
  have S0 := SB.out _ (Below.refl _ w).drew
  clear h
  go_enter Tryz.func33, Tryz.ntmps33
  go_upto_region 1 with fail
  go_region_held3 (fun V => V.cell? ⟨q, 0, none⟩ = some (.pointer (some ⟨p.qs, 0, none⟩)) ∧ V.cell? ⟨q, 1, none⟩ = some (.pointer (some ⟨p.qm, 0, none⟩)) ∧ V.cell? ⟨q, 2, none⟩ = some (.pointer (some ⟨p.ql, 0, none⟩)) ∧ V.cell? ⟨q, 3, none⟩ = some (.pointer (some ⟨p.qc, 0, none⟩)))
    (first | exact S4 | exact S3 | exact S2 | exact S1 | exact S0 | exact SB.out _ (up_alloc B4.out _))
    ((first
      | (go_at_call 24; refine (HPg.out _ (Below.refl _ w).drew).mono ?_; rintro e w' ⟨rfl, rfl⟩)
      | (go_at_call 63; refine (HCp.out _ (Below.refl _ w).drew).mono ?_; rintro e w1 ⟨qs, gs, rfl, s1, a1, a2, b1⟩; have B1 : Hid (Below w.heap.size w w1) := up_trans (Below.refl _ w).drew b1; have S1 := SB.out _ B1.out; have HS1 := Lib.hid s1; have HA1 : Hid (w.heap.size ≤ qs ∧ w.heap.size ≤ gs) := ⟨a1, a2⟩; clear s1 a1 a2 b1)
      | (go_at_call 64; refine (HRa.out _ B1.out).mono ?_; rintro e w2 ⟨gm, rfl, m2, l2, b2⟩; have B2 : Hid (Below w.heap.size w w2) := up_trans B1.out b2; have S2 := SB.out _ B2.out; have HM2 := Lib.hid m2; have HL2 := Lib.hid l2; have HS2 := Lib.hid (HS1.out.below b2); clear m2 l2 b2)
      | (go_at_call 65; refine (HLe.out _ B2.out).mono ?_; rintro e w3 ⟨ql, bl, rfl, l3, a3, a4, b3⟩; have B3 : Hid (Below w.heap.size w w3) := up_trans B2.out b3; have S3 := SB.out _ B3.out; have HD3 := Lib.hid l3; have HA3 : Hid (w2.heap.size ≤ ql ∧ w2.heap.size ≤ bl) := ⟨a3, a4⟩; have HS3 := Lib.hid (HS2.out.below b3); have HM3 := Lib.hid (HM2.out.below b3); clear l3 a3 a4 b3)
      | (go_at_call 66; refine (HCe.out _ B3.out).mono ?_; rintro e w4 ⟨qc, rfl, a5, m4, b4⟩; have B4 : Hid (Below w.heap.size w w4) := up_trans B3.out b4; have S4 := SB.out _ B4.out; have HC4 := Lib.hid m4; have HA4 : Hid (w3.heap.size ≤ qc) := a5; have HS4 := Lib.hid (HS3.out.below b4); have HM4 := Lib.hid (HM3.out.below b4); have HD4 := Lib.hid (HD3.out.below b4); clear a5 m4 b4)))
  go_wp2_with fail
  go_ret
  have z1 := B1.out.size
  have z2 := B2.out.size
  have z3 := B3.out.size
  have z4 := B4.out.size
  obtain ⟨y1, y2⟩ := HA1.out
  obtain ⟨y3, y4⟩ := HA3.out
  have y5 := HA4.out
  have bb := up_alloc (Below.refl w4.heap.size w4) (.cells #[.pointer (some ⟨qs, 0, none⟩), .pointer (some ⟨w1.heap.size, 0, none⟩), .pointer (some ⟨ql, 0, none⟩), .pointer (some ⟨qc, 0, none⟩)] 93)
  refine ⟨w4.heap.size, ⟨qs, gs, w1.heap.size, gm, ql, bl, qc, w3.heap.size⟩, rfl, ⟨⟨Blk.new w4 _ 93, HS4.out.below bb, HM4.out.below bb, HD4.out.below bb, HC4.out.below bb⟩, HH.out.inv, HH.out.len⟩, z4, ⟨fun k hk => ?_, ?_, ?_⟩, up_alloc B4.out _⟩
  · rcases hk with e | e | e | ⟨i, hi, e⟩ | e | e
    · have : k = qs := e; omega
    · have : k = gs := e; omega
    · have : k = w1.heap.size := e; omega
    · have := HL2.out i k hi e; omega
    · have : k = ql := e; omega
    · have : k = bl := e; omega
  · show w.heap.size ≤ qc; omega
  · show w.heap.size ≤ w3.heap.size; omega
end Go.Proofs.YtjnknnakllbaaaaGreat.Gr
