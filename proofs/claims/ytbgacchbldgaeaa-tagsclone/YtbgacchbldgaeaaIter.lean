/-
  The iterator that All answers: what it does, whatever a loop's body does to the tags. Contracts that the claimed proofs use.
-/
import Derived.Test.YtbgacchbldgaeaaTail
import Derived.StillTailTactics
import Derived.OrdersIn
namespace Go.Proofs.Ytbgacchbldgaeaa
open Go.RowKit Go.Maps Go.Shelf

attribute [local go_sem] Oper.semAt_some

/-- How a row is handed to a loop's body. -/
abbrev encR (r : Tr) : Array Value := #[pv r.p r.s, pv r.k r.z]
set_option maxRecDepth 100000 in
set_option maxHeartbeats 4000000 in
theorem all_stops (n : Nat) (hn : 1 ≤ n) (Bt Bg q b : Nat) (L : List Tr) (w : World) (hBt : w.cell? ⟨Bt, 0, none⟩ = some (.pointer (some ⟨q, 0, none⟩))) (ht : Tg w q b L) (hBg : Bg < w.heap.size) (hgot : gotB Bg w < w.heap.size) :
    SeqStopsK Fence.wide n Try.prog 38 #[.pointer (some ⟨Bt, 0, none⟩)] encR (Kp Bg w.heap.size) (fun ys => ys = L) (fun _ => True) L.length w := fun l J Jx W hW hJ hJx hY h0 => by
  have g1 := (hW.cell (p := ⟨Bt, 0, none⟩) (World.block_lt_of_cell? w _ hBt)).trans hBt
  have HT := Lib.hid (ht.below hW)
  have g2 := HT.out.cell
  have HC := Lib.hid (mapclone_any HT.out.mp)
  have HWf := Lib.hid ht.wf
  have hgW : gotB Bg W = gotB Bg w := by unfold gotB; rw [cell_same (hW.block Bg hBg)]
  have hsz := hW.size
  have HY := Lib.hid hY
  have HJ := Lib.hid hJ
  have H0 := Lib.hid h0
  have HN : Hid (L.length ≤ 524288) := ht.wf.len
  obtain ⟨N, hN⟩ : ∃ N, L.length = N := ⟨_, rfl⟩
  have HNN := Lib.hid hN
  have hN5 : N ≤ 524288 := by rw [← hN]; exact HN.out
  have hmx : Try.prog.follows .mixedOrders = true := by kernel_rfl
  clear hBt ht hY hJ hJx h0 hW hN
  refine callsIn_of_wp Try.func38 rfl trivial ?_ rfl
  simp only [Try.ntmps38, List.size_toArray, List.length_cons, List.length_nil, Nat.reduceAdd, Nat.reduceSub, Array.replicate_succ, Array.replicate_zero, List.push_toArray, List.append_toArray, List.nil_append, List.cons_append]
  gi_wp2_with fail
  refine ⟨trivial, ?_⟩
  refine (wide_calls HC.out).mono ?_
  rintro e w2 ⟨rfl, m2, b2, s2⟩
  clear s2
  have M2 := Lib.hid m2
  have B2 := Lib.hid b2
  clear m2 b2 HC
  gi_wp2_with fail
  refine ⟨trivial, ?_⟩
  refine (wide_calls (keysof_any W.heap.size w2)).mono ?_
  rintro e w3 ⟨rfl, h3⟩
  have b3 : Below w2.heap.size w2 w3 := by rw [h3]; exact up_alloc (Below.refl _ _) _
  have x3 : Blk w3 w2.heap.size [.map (some W.heap.size)] 64 := by rw [h3]; exact Blk.new w2 [.map (some W.heap.size)] 64
  have HS := Lib.hid (sorted_any w2.heap.size W.heap.size L w3 x3.cell (M2.out.below b3) HWf.out)
  have M3 := Lib.hid (M2.out.below b3)
  have B3 := Lib.hid (up_trans B2.out b3)
  clear h3 b3 x3 M2 B2
  gi_wp2_with fail
  refine ⟨trivial, ?_⟩
  refine (wide_calls HS.out).mono ?_
  rintro e w4 ⟨v, rfl, p4, b4⟩
  have M4 := Lib.hid (M3.out.below b4)
  have B4 := Lib.hid (up_trans B3.out b4)
  have P4 := Lib.hid p4
  have HJ4 : Hid (J [] w4) := HJ.out [] W w4 none H0.out (grown_below B4.out) (fun r e => by cases e)
  have hs34 := B3.out.size
  have HGot : Hid (gotB Bg w4 < w.heap.size) := by
    have e : gotB Bg w4 = gotB Bg W := by unfold gotB; rw [cell_same (B4.out.block Bg (by omega))]
    show _ < _
    omega
  obtain ⟨A, c, hv⟩ := own_form p4
  rw [List.length_map, HNN.out] at hv
  subst hv
  have HMlt := Lib.hid M4.out.lt
  have HBo : Hid (∀ g, A = some g → w.heap.size < g.block) := fun g e => by
    have := (P4.out.lt g.block (by rw [e]; rfl)).1
    omega
  have p5 : w4.ownsRow (w3.heap.size + 1) 24 2 (.slice A N c) N (flat (L.map plc)) := by
    have := p4
    unfold Ps at this
    rwa [List.length_map, HNN.out] at this
  have HAt := Lib.hid (own_at p5)
  clear p4 p5 b4 HS g1 g2 hgW H0 M3 B3
  gi_wp2_with fail
  gi_loopw [15] (fun i wr => ∃ k : Nat, k ≤ N ∧ i = .int .i64 k ∧ J (L.take k) wr ∧ wr.heap[W.heap.size]? = w4.heap[W.heap.size]? ∧ (∀ g, A = some g → wr.heap[g.block]? = w4.heap[g.block]? ∧ gotB Bg wr ≠ g.block) ∧ gotB Bg wr ≠ W.heap.size ∧ w4.heap.size ≤ wr.heap.size) (fun i _ => N - (intOf i).toNat)
  case atStart => exact ⟨0, Nat.zero_le _, rfl, HJ4.out, rfl, fun g e => ⟨rfl, by have := HBo.out g e; have := HGot.out; omega⟩, by have := HGot.out; omega, Nat.le_refl _⟩
  case round =>
    obtain ⟨k, hk, rfl, hJs, hm, hcs, hgm, hs2⟩ := hrel
    have HJs := Lib.hid hJs
    have HM := Lib.hid hm
    have HCs := Lib.hid hcs
    have HGm := Lib.hid hgm
    clear hJs hm hcs hgm
    by_cases hlt : k < N
    · have hkl : k < L.length := by rw [HNN.out]; exact hlt
      obtain ⟨gb, go, rfl, hgb, hcell⟩ := HAt.out (by rw [flat_len, List.length_map]; omega)
      obtain ⟨hsame, hgn⟩ := HCs.out _ rfl
      have hmemL : L[k] ∈ L := List.getElem_mem hkl
      have hok := HWf.out.ok _ hmemL
      have q1 : wr.cell? ⟨gb, go + k * 2, none⟩ = some (.int .i64 L[k].p) := by
        refine (cell_same hsame).trans (hcell (k * 2) _ ?_)
        rw [flat_get _ _ (by rw [List.length_map]; omega)]
        have e1 : k * 2 / 2 = k := by omega
        have e2 : k * 2 % 2 = 0 := by omega
        rw [e1, e2]
        simp [hkl, plc, enc]
      have q2 : wr.cell? ⟨gb, go + k * 2 + 1, none⟩ = some (.int .i64 L[k].s) := by
        refine (cell_same hsame).trans (hcell (k * 2 + 1) _ ?_)
        rw [flat_get _ _ (by rw [List.length_map]; omega)]
        have e1 : (k * 2 + 1) / 2 = k := by omega
        have e2 : (k * 2 + 1) % 2 = 1 := by omega
        rw [e1, e2]
        simp [hkl, plc, enc]
      have HE2 : Hid (L.take (k + 1) = L.take k ++ [L[k]]) := by show _ = _; rw [List.take_succ_eq_append_getElem hkl]
      have hrow := rowOf_is HWf.out hmemL
      obtain ⟨x, hx⟩ : ∃ x, L[k] = x := ⟨_, rfl⟩
      rw [hx] at q1 q2 HE2 hok hrow hmemL
      have hmr : Mp wr W.heap.size L := M4.out.of HM.out
      have b5 := up_alloc (Below.refl wr.heap.size wr) (.cells #[.int .i64 x.p, .int .i64 x.s] 24)
      have hlk := (hmr.below (b5.drew)).look1 (Tr.ok_p hok) (Tr.ok_s hok)
      rw [hrow] at hlk
      have hj5 : J (L.take k) (wr.alloc (.cells #[.int .i64 x.p, .int .i64 x.s] 24)).drew := HJ.out _ wr _ none HJs.out (grown_below b5.drew) (fun r e => by cases e)
      have HY1 := Lib.hid (HY.out (L.take k) x _ hj5 (by rw [List.length_take, HNN.out]; omega))
      have j1 : (0 : Int) ≤ (k : Int) := by omega
      have j2 : (k : Int) < (N : Int) := by omega
      have HSame := Lib.hid hsame
      have HGn := Lib.hid hgn
      have HB5 := Lib.hid b5
      obtain ⟨es, clk, hob⟩ := hmr.obj
      have HOb := Lib.hid hob
      have HCb := Lib.hid (World.block_lt_of_cell? wr _ q1)
      obtain ⟨cs, t, fr, hcc⟩ : ∃ cs t fr, wr.heap[gb]? = some (.cells cs t fr) := by
        unfold World.cell? at q1
        cases hb : wr.heap[gb]? with
        | none => simp [hb] at q1
        | some o =>
          cases o with
          | cells cs t fr => exact ⟨cs, t, fr, rfl⟩
          | _ => simp [hb] at q1
      have HCc := Lib.hid hcc
      clear hcell hx hkl hsame hgn hmemL hok hrow hmr b5 hj5 hob hcc
      obtain ⟨p, s, kk, z⟩ := x
      simp only [] at q1 q2 hlk HY1
      obtain ⟨fn, tmps, assign, body, hy, hR⟩ := HY1.out
      have HR := Lib.hid hR
      clear hR HY1
      gi_wp2_with fail
      refine round_still_tail wide_calls rfl (fun _ => trivial) 5 hmx (by kernel_rfl) (by kernel_rfl) ?_
      simp only [List.take_succ_cons, List.take_zero, List.drop_succ_cons, List.drop_zero]
      repeat still_step
      refine wpStill_nil ?_
      gi_wp2_with fail
      refine HR.out.mono ?_
      have hgot5 : gotB Bg (wr.alloc (.cells #[.int .i64 p, .int .i64 s] 24)).drew = gotB Bg wr := by
        unfold gotB
        rw [cell_same (HB5.out.drew.block Bg (by have := B4.out.size; omega))]
      rintro e W3 (⟨rfl, hJ3, hk3⟩ | ⟨rfl, hJx3⟩)
      · have HJ3 := Lib.hid hJ3
        have hsz5 : wr.heap.size ≤ (wr.alloc (.cells #[.int .i64 p, .int .i64 s] 24)).drew.heap.size := HB5.out.size
        have hmlt : W.heap.size < wr.heap.size := (Array.getElem?_eq_some_iff.1 HOb.out).1
        have hclt : gb < wr.heap.size := HCb.out
        have e1 := HB5.out.drew.block W.heap.size hmlt
        have e2 := HB5.out.drew.block gb hclt
        have r1 := (hk3.block W.heap.size _ (by omega) (e1.trans HOb.out) rfl (by rw [hgot5]; exact fun e => HGm.out e.symm)).trans e1
        have hgbw : w.heap.size ≤ gb := Nat.le_of_lt (HBo.out _ rfl)
        have r2 := (hk3.block gb _ hgbw (e2.trans HCc.out) rfl (by rw [hgot5]; exact fun e => HGn.out e.symm)).trans e2
        have r3 : gotB Bg W3 ≠ W.heap.size := by
          rcases hk3.got with e | e
          · rw [e, hgot5]; exact HGm.out
          · omega
        have r4 : gotB Bg W3 ≠ gb := by
          rcases hk3.got with e | e
          · rw [e, hgot5]; exact HGn.out
          · omega
        have HFin : Hid (W3.heap[W.heap.size]? = w4.heap[W.heap.size]? ∧ (∀ g, some (⟨gb, go, none⟩ : Addr) = some g → W3.heap[g.block]? = w4.heap[g.block]? ∧ gotB Bg W3 ≠ g.block) ∧ gotB Bg W3 ≠ W.heap.size ∧ w4.heap.size ≤ W3.heap.size) :=
          ⟨r1.trans HM.out, fun g e => by cases e; exact ⟨r2.trans HSame.out, r4⟩, r3, by have := hk3.size; omega⟩
        clear hJ3 hk3 hy HR e1 e2 r1 r2 r3 r4 hgot5 hsz5
        gi_wp2_with fail
        go_roundw
        case rel => exact ⟨k + 1, by omega, by go_num, by rw [HE2.out]; exact HJ3.out, HFin.out.1, HFin.out.2.1, HFin.out.2.2.1, HFin.out.2.2.2⟩
        case measure => simp [intOf]; omega
      · have HJx3 := Lib.hid hJx3
        clear hJx3 hy HR hgot5
        gi_wp2_with fail
        refine bodyPost_ret (results_none rfl _ _ _) rfl ?_
        exact ⟨⟨_, rfl⟩, .inr ⟨_, trivial, HJx3.out⟩⟩
    · obtain rfl : k = N := by omega
      gi_wp2_with fail
      go_end0
      have e3 : L.take k = L := List.take_of_length_le (by rw [HNN.out]; omega)
      rw [e3] at HJs
      exact ⟨⟨_, rfl⟩, .inl ⟨_, rfl, HJs.out⟩⟩
end Go.Proofs.Ytbgacchbldgaeaa
