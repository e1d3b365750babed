import Derived.Test.YtaelfgdiboekpaaDoorNsRB
import Derived.Test.YtaelfgdiboekpaaDoorNsWith2
/-
  How the document gives several: contracts that the claimed proof uses.
-/
namespace Go.Proofs.YtaelfgdiboekpaaDoor.Ns
set_option maxRecDepth 100000
open Go.RowKit
open Ce (u y ldW Mem row)
open Bi (Blk Drawn hasB hasB_iff hasB_not up_alloc up_drew up_trans i64_in ret_i ret_b grown_refl grown_trans grown_below)

theorem gaK_mem {b c k : Nat} {a : Int} {ys : List Int} (h : slotO b c a = some k) : k ∈ gaK b c ys ↔ a ∈ ys := by
  unfold gaK
  rw [List.mem_filterMap]
  constructor
  · rintro ⟨a', h1, h2⟩
    rw [(slotO_some h).2, ← (slotO_some h2).2]; exact h1
  · intro h1
    exact ⟨a, h1, h⟩
/-- One number more is asked. -/
theorem ga_step {b c : Nat} {L : List Nat} {T : List Int} {j : Nat} (hj : j < T.length) :
    (canI b c L (T.take j) T[j] ≠ 0 → gaE b c (L ++ gaK b c (T.take j)) (T.drop j) = canI b c L (T.take j) T[j]) ∧
    (canI b c L (T.take j) T[j] = 0 → gaE b c (L ++ gaK b c (T.take (j + 1))) (T.drop (j + 1)) = gaE b c (L ++ gaK b c (T.take j)) (T.drop j)) := by
  rw [List.drop_eq_getElem_cons hj]
  unfold canI
  cases hs : slotO b c T[j] with
  | none =>
    refine ⟨fun _ => ?_, fun h => absurd h (by simp)⟩
    show gaE b c _ (T[j] :: _) = 12
    unfold gaE; rw [hs]
  | some k =>
    have e : gaE b c (L ++ gaK b c (T.take j)) (T[j] :: T.drop (j + 1)) = if k ∈ L ++ gaK b c (T.take j) then 19 else gaE b c (L ++ gaK b c (T.take j) ++ [k]) (T.drop (j + 1)) := by
      conv => lhs; unfold gaE
      rw [hs]
    rw [e]
    have hm : (k ∈ L ++ gaK b c (T.take j)) ↔ (k ∈ L ∨ T[j] ∈ T.take j) := by rw [List.mem_append, gaK_mem hs]
    show ((if k ∈ L ∨ T[j] ∈ T.take j then (19 : Int) else 0) ≠ 0 → _ = (if k ∈ L ∨ T[j] ∈ T.take j then (19 : Int) else 0)) ∧ ((if k ∈ L ∨ T[j] ∈ T.take j then (19 : Int) else 0) = 0 → _)
    by_cases h : k ∈ L ∨ T[j] ∈ T.take j
    · rw [if_pos h, if_pos (hm.2 h)]
      exact ⟨fun _ => rfl, fun h => absurd h (by decide)⟩
    · rw [if_neg h, if_neg (fun z => h (hm.1 z))]
      exact ⟨fun h => absurd rfl h, fun _ => by rw [gaK_take hj hs, List.append_assoc]⟩
theorem At.take {B : Nat} {w : World} {A : Option Addr} {T : List Int} (h : At B w A (ints T)) (j : Nat) : At B w A (ints (T.take j)) := fun hp => by
  rw [ints_len, List.length_take] at hp
  obtain ⟨b, o, e, hb, hc⟩ := h (by rw [ints_len]; omega)
  refine ⟨b, o, e, hb, fun i v hi => hc i v ?_⟩
  unfold ints at hi ⊢
  rw [List.map_take] at hi
  rw [List.getElem?_take] at hi
  split at hi
  · exact hi
  · cases hi
section
variable {w w' W : World} {r m gm cap b c h f : Nat} {bs : List (BitVec 8)} {L : List Nat}
theorem Li.take {A : Option Addr} {T : List Int} (h : Li w A T) (j : Nat) : Li w A (T.take j) := ⟨h.1.take j, h.2⟩
theorem rall_no {A : Option Addr} {n cp : Nat} (x : Rf w r m gm cap bs b c h f) (hr : ¬ ∃ L, Rt (nx bs b c) h f L) : Calls Tryd.prog 71 #[.pointer (some ⟨r, 0, none⟩), .slice A n cp] w fun e w' =>
    e = .returned (.int .i64 10) ∧ Below w.heap.size w w' := by
  have HC := Lib.hid (rlist_no x hr)
  clear x hr
  go_enter Tryd.func71, Tryd.ntmps71
  go_wp2_with fail
  refine HC.out.mono ?_
  rintro e w1 ⟨⟨A, n, cp, rfl⟩, hb⟩
  have HB := Lib.hid hb
  clear hb HC
  go_wp2_with fail
  go_ret
  exact ⟨rfl, HB.out⟩
set_option maxHeartbeats 4000000 in
theorem rall_yes {A : Option Addr} {n cp : Nat} {T : List Int} (x : Rf w r m gm cap bs b c h f) (hr : Rt (nx bs b c) h f L) {B : Nat} (hA : At B w A (ints T)) (hB : B ≤ r ∧ B ≤ m ∧ B ≤ w.heap.size) (hn : T.length = n) (hn2 : n ≤ 1048576) (hcp : n ≤ cp) :
    Calls Tryd.prog 71 #[.pointer (some ⟨r, 0, none⟩), .slice A n cp] w fun e w' => (gaE b c L T ≠ 0 ∧ e = .returned (.int .i64 (gaE b c L T)) ∧ Below w.heap.size w w') ∨ (gaE b c L T = 0 ∧ e = .returned (.int .i64 0) ∧ RGave r m gm b c (SS.pushes b c ⟨bs, h, f⟩ (gaK b c T)) w w') := by
  have HC := Lib.hid (rlist_yes x hr)
  have HX := Lib.hid x
  have HA := Lib.hid hA
  have HBl := Lib.hid hB
  have HN := Lib.hid hn
  have HR := Lib.hid hr
  have HOk : Hid (Ok b c bs.length ⟨bs, h, f⟩ L) := ⟨hr, rfl, x.hh⟩
  clear x hr hA hn hB
  go_enter Tryd.func71, Tryd.ntmps71
  go_wp2_with fail
  refine HC.out.mono ?_
  rintro e w1 ⟨⟨A1, c1, rfl, -⟩, hb⟩
  have HB := Lib.hid hb
  clear hb HC
  go_wp2_with fail
  go_loopw [7, 8] (fun i v wr => ∃ (j : Nat), j ≤ n ∧ i = .int .i64 (j : Int) ∧ gaE b c (L ++ gaK b c (T.take j)) (T.drop j) = gaE b c L T ∧ Below w.heap.size w wr) (fun i _ _ => n - (intOf i).toNat)
  case atStart => exact ⟨0, by omega, rfl, by simp [gaK], HB.out⟩
  case round =>
    obtain ⟨j, hj, rfl, hx, hb⟩ := hrel
    have HXx := Lib.hid hx
    have HBr := Lib.hid hb
    clear hx hb
    by_cases hlt : j < n
    · have hjl : j < T.length := by rw [HN.out]; exact hlt
      have hLi := HA.out.below (Below.down HBr.out HBl.out.2.2)
      have hszr := HBr.out.size
      obtain ⟨b', o', rfl, hb0, q0⟩ := hLi.int hjl
      have hbl : b' < wr.heap.size := by have := HBl.out.2.2; omega
      obtain ⟨g1, g2⟩ := ga_step (b := b) (c := c) (L := L) hjl
      obtain ⟨t, ht⟩ : ∃ t, T[j] = t := ⟨_, rfl⟩
      rw [ht] at q0 g1 g2
      have hlt2 : (T.take j).length = j := by rw [List.length_take]; omega
      have B1 : Below wr.heap.size wr wr.drew := (Below.refl _ wr).drew
      have HCan := Lib.hid (rcan_yes t (some ⟨b', o', none⟩) j cp (T.take j) ((HX.out.below HBr.out).below B1) HR.out (((hLi.take j).more (by have := HBl.out.2.2; omega)).up B1) hlt2 (by omega))
      have G1 : Hid (canI b c L (T.take j) t ≠ 0 → gaE b c L T = canI b c L (T.take j) t) := fun e => by rw [← HXx.out]; exact g1 e
      have G2 : Hid (canI b c L (T.take j) t = 0 → gaE b c (L ++ gaK b c (T.take (j + 1))) (T.drop (j + 1)) = gaE b c L T) := fun e => by rw [← HXx.out]; exact g2 e
      generalize canI b c L (T.take j) t = ci at *
      have j1 : (0 : Int) ≤ (j : Int) := by omega
      have j2 : (j : Int) < (n : Int) := by omega
      have j3 : (j : Int) ≤ (cp : Int) := by omega
      clear hjl g1 g2 ht hlt2 B1 hLi
      go_wp2_with fail
      go_region_held3 (fun V => V.cell? ⟨b', o' + j, none⟩ = some (.int .i64 t))
        (first | exact (hb2.cell (p := ⟨b', o' + j, none⟩) hbl).trans q0 | exact q0)
        ((go_at_call 95; refine HCan.out.mono ?_; rintro e w2 ⟨rfl, hb2⟩))
      have B2 : Hid (Below w.heap.size w w2) := up_trans HBr.out ((Below.refl _ wr).drew.trans hb2)
      by_cases h0 : ci = 0
      · have E0 := Lib.hid (G2.out h0)
        subst h0
        clear hb2 HCan q0 G1 G2
        go_wp2_with fail
        go_roundw
        case rel => exact ⟨j + 1, by omega, by go_num, E0.out, B2.out⟩
        case measure => simp [intOf]; omega
      · have d : (ci == 0) = false := by rw [beq_eq_false_iff_ne]; exact h0
        have E0 := Lib.hid (G1.out h0)
        have E1 := Lib.hid h0
        clear hb2 HCan q0 G1 G2 h0
        go_wp2_with fail
        go_ret
        exact .inl ⟨by rw [E0.out]; exact E1.out, ret_i E0.out.symm, B2.out⟩
    · obtain rfl : j = n := by omega
      have HE : Hid (gaE b c L T = 0) := by
        have := HXx.out
        rw [← HN.out, List.drop_length] at this
        rw [← this]
        unfold gaE; rfl
      have HG := Lib.hid (gaE_ok HE.out)
      have HLi := Lib.hid (HA.out.below (Below.down HBr.out HBl.out.2.2))
      have HszA : Hid (w.heap.size ≤ wr.heap.size) := HBr.out.size
      have HX1 := Lib.hid (HX.out.below HBr.out)
      clear HXx
      generalize wr = wa at *
      go_wp2_with fail
      go_loopw [9] (fun i wr => ∃ (y : Nat) (gm' cap' : Nat), y ≤ j ∧ i = .int .i64 (y : Int) ∧ Rf wr r m gm' cap' (SS.pushes b c ⟨bs, h, f⟩ (gaK b c (T.take y))).bs b c (SS.pushes b c ⟨bs, h, f⟩ (gaK b c (T.take y))).h (SS.pushes b c ⟨bs, h, f⟩ (gaK b c (T.take y))).f ∧ (∃ M, Ok b c bs.length (SS.pushes b c ⟨bs, h, f⟩ (gaK b c (T.take y))) M ∧ ∀ z ∈ M, z ∈ L ∨ z ∈ gaK b c (T.take y)) ∧ Fr r m wa wr ∧ (gm' = gm ∨ w.heap.size ≤ gm')) (fun i _ => j - (intOf i).toNat)
      case atStart => exact ⟨0, gm, cap, by omega, rfl, HX1.out, ⟨L, HOk.out, fun z hz => .inl hz⟩, Fr.of (Below.refl _ wa), .inl rfl⟩
      case round =>
        obtain ⟨y, gm', cap', hy, rfl, hx, hok, hfr, hgm⟩ := hrel
        obtain ⟨M, hok, hM⟩ := hok
        have HX2 := Lib.hid hx
        have HOk2 := Lib.hid hok
        have HMM := Lib.hid hM
        have HF2 := Lib.hid hfr
        have HGm := Lib.hid hgm
        clear hx hok hM hfr hgm
        by_cases hlt2 : y < j
        · have hyl : y < T.length := by rw [HN.out]; exact hlt2
          obtain ⟨k, k1, k2, k3⟩ := HG.out y hyl
          have HTk := Lib.hid (gaK_take hyl k1)
          have hkM : k ∉ M := fun e => by
            rcases HMM.out k e with e | e
            · exact k2 e
            · exact k3 e
          have hLi2 := HLi.out.below (HF2.out.below HBl.out.1 HBl.out.2.1 (Nat.le_trans HBl.out.2.2 HszA.out))
          obtain ⟨b', o', rfl, _, q1⟩ := hLi2.int hyl
          have hgv : gvE b c M T[y] = 0 := by unfold gvE; rw [k1]; exact if_neg hkM
          have HGv := Lib.hid (rgive_yes T[y] HX2.out HOk2.out.rt)
          rw [hgv] at HGv
          have HK1 := Lib.hid k1
          generalize T[y] = t at *
          have HKM := Lib.hid hkM
          have HGv2 : Hid (Calls Tryd.prog 69 #[.pointer (some ⟨r, 0, none⟩), .int .i64 t] wr fun e w' => e = .returned (.int .i64 0) ∧ RGave r m gm' b c (SS.push b c (SS.pushes b c ⟨bs, h, f⟩ (gaK b c (T.take y))) k) wr w') := HGv.out.mono fun e w' z => by
            rcases z with ⟨z, _⟩ | ⟨_, he, k', z1, _, z3⟩
            · exact absurd rfl z
            · rw [HK1.out] at z1
              cases z1
              exact ⟨he, z3⟩
          have HKN : Hid (k < nS c) := (slotO_some k1).1
          have j1 : (0 : Int) ≤ (y : Int) := by omega
          have j2 : (y : Int) < (j : Int) := by omega
          clear hyl k1 k2 k3 hkM hLi2 hgv HGv
          go_wp2_with fail
          refine HGv2.out.mono ?_
          rintro e w3 ⟨rfl, gm2, cap2, x3, f3, g3⟩
          have X3 := Lib.hid x3
          have F3 := Lib.hid (HF2.out.trans f3)
          have G3 : Hid (gm2 = gm ∨ w.heap.size ≤ gm2) := by
            rcases g3 with rfl | g3
            · exact HGm.out
            · exact .inr (Nat.le_trans (Nat.le_trans HBr.out.size HF2.out.size) g3)
          clear x3 f3 g3 HGv2
          go_wp2_with fail
          go_roundw
          case rel =>
            refine ⟨y + 1, gm2, cap2, by omega, by go_num, ?_, ?_, F3.out, G3.out⟩
            · rw [HTk.out, pushes_snoc]; exact X3.out
            · rw [HTk.out, pushes_snoc]
              refine ⟨k :: M, HOk2.out.push HX.out.hc HX.out.fit HKN.out HKM.out, fun z hz => ?_⟩
              rcases List.mem_cons.1 hz with e | hz
              · right; simp [e]
              · rcases HMM.out z hz with e | e
                · exact .inl e
                · right; simp [e]
          case measure => simp [intOf]; omega
        · obtain rfl : y = j := by omega
          go_wp2_with fail
          go_ret
          have e : T.take y = T := List.take_of_length_le (by rw [HN.out]; exact Nat.le_refl _)
          have z := HX2.out
          rw [e] at z
          exact .inr ⟨HE.out, rfl, gm', cap', z, (Fr.of HBr.out).trans HF2.out, HGm.out⟩
end
end Go.Proofs.YtaelfgdiboekpaaDoor.Ns

/-
  Where the document begins no slab: contracts that the claimed proof uses.
-/
namespace Go.Proofs.YtaelfgdiboekpaaDoor.Ns
set_option maxRecDepth 100000
open Go.RowKit
open Ce (u y ldW Mem row)
open Bi (Blk Drawn hasB hasB_iff hasB_not up_alloc up_drew up_trans i64_in ret_i ret_b grown_refl grown_trans grown_below)

/-- A region that draws its order, whose operations read what is the same in every world of a class, and whose calls leave worlds of it. -/
theorem region_in {id : Nat} {Q : Exit → Act → World → Prop} {a : Act} {w : World} {l : List Oper} (S : World → Prop) (hm : Tryd.prog.follows .mixedOrders = true) (hB : Region.lexB .any l.toArray = true) (hS : S w.drew)
    (h : ∀ (ι : Type) (_ : Nonempty ι) (f : ι → World), (∀ n, S (f n)) → (∀ W, S W → ∃ n, W = f n) → wpQuiet Tryd.prog l.toArray (fun w' => ∃ n, w' = f n) (fun a' => ∀ w', (∃ n, w' = f n) → Q .normal a' w') l a) :
    (Code.region id l.toArray true).wp Tryd.prog Q a w :=
  wp_region_quiet (C := fun w' => ∃ n : {W // S W}, w' = n.1) hm hB ⟨⟨w.drew, hS⟩, rfl⟩ (by simpa using h {W // S W} ⟨⟨w.drew, hS⟩⟩ Subtype.val (fun n => n.2) (fun W hW => ⟨⟨W, hW⟩, rfl⟩))
/-- The document's memory: its struct names a row of one's own. -/
structure RM (w : World) (m gm cap : Nat) (bs : List (BitVec 8)) : Prop where
  mblk : Blk w m [.slice (some ⟨gm, 0, none⟩) bs.length cap] 47
  own : w.ownsRow 0 5 1 (.slice (some ⟨gm, 0, none⟩) bs.length cap) bs.length (row bs)
  len : bs.length ≤ 1048576
section
variable {w w' W : World} {r m gm cap b c h f : Nat} {bs : List (BitVec 8)} {L : List Nat}
theorem RM.below (x : RM w m gm cap bs) (hb : Below w.heap.size w w') : RM w' m gm cap bs := by
  obtain ⟨_, _, h, _⟩ := own_at_row x.own
  exact ⟨x.mblk.of (hb.block _ x.mblk.lt), own_of x.own (fun j e => by cases e; exact hb.block _ h), x.len⟩
theorem RM.rf (x : RM w m gm cap bs) (hr : Blk w r [.pointer (some ⟨m, 0, none⟩), .int .i64 (b : Int), .int .i64 (c : Int), .int .i64 (-1), .int .i64 0] 108) (hc : c < 12) (hf : b + 1024 ≤ bs.length) : Rf w r m gm cap bs b c 0 0 :=
  ⟨hr, x.mblk, x.own, x.len, hc, hf, Nat.zero_le _, Nat.zero_le _⟩
theorem rsz_cls {x : Int} : (Tb.sizeOf' 1 x == 0) = !clsB x := by
  cases h : clsB x with
  | true =>
    obtain ⟨h0, h1⟩ := clsB_iff.1 h
    obtain ⟨k, rfl⟩ := Int.eq_ofNat_of_zero_le h0
    have hk : k < 12 := by omega
    rw [size_of hk]
    have := (cls k hk).1
    show _ = false
    rw [beq_eq_false_iff_ne]; omega
  | false =>
    show _ = true
    rw [beq_iff_eq]
    by_cases h0 : 0 ≤ x
    · obtain ⟨k, rfl⟩ := Int.eq_ofNat_of_zero_le h0
      refine Tb.sizeOf_beyond ?_
      rw [Tb.cnt_1]
      have : ¬ ((0 : Int) ≤ (k : Int) ∧ (k : Int) < 12) := fun z => by rw [clsB_iff.2 z] at h; cases h
      omega
    · exact Tb.sizeOf_neg h0
set_option maxHeartbeats 2000000 in
theorem rwith_range (x z : Int) (v : Value) (hm : RM w m gm cap bs) (hno : (isB bs.length x && clsB z) = false) : Calls Tryd.prog 17 #[.pointer (some ⟨m, 0, none⟩), .int .i64 x, .int .i64 z, v] w fun e w' =>
    e = .returned (.tuple #[.pointer none, .int .i64 11]) ∧ Below w.heap.size w w' := by
  have m0 : w.cell? ⟨m, 0, none⟩ = some (.slice (some ⟨gm, 0, none⟩) bs.length cap) := hm.mblk.cell
  have HS := Lib.hid (rsize6_any z w)
  have HZ := Lib.hid (@rsz_cls z)
  have hl := hm.len
  obtain ⟨N, hN⟩ : ∃ N, bs.length = N := ⟨_, rfl⟩
  rw [hN] at m0 hl hno
  clear hm hN
  generalize Tb.sizeOf' 1 z = sz at *
  obtain ⟨NN, hNN⟩ : ∃ NN, (N : Int) - 1024 = NN := ⟨_, rfl⟩
  have w1 : IntKind.i64.wrap ((N : Int) - 1024) = NN := by rw [IntKind.wrap_i64]; omega
  by_cases h0 : x < 0
  · have d0 : decide (x < 0) = true := by simpa using h0
    clear h0 hno hNN
    go_enter Tryd.func17, Tryd.ntmps17
    go_wp2_with fail
    go_ret2
    exact ⟨rfl, Below.refl _ _⟩
  · have d0 : decide (x < 0) = false := by simpa using h0
    have e1 : x.tmod 1024 = x % 1024 := by rw [Int.tmod_eq_emod_of_nonneg (by omega)]
    obtain ⟨mm, hmm⟩ : ∃ mm, x % 1024 = mm := ⟨_, rfl⟩
    rw [hmm] at e1
    by_cases h1 : mm = 0
    · have d1 : (mm != 0) = false := by simp [h1]
      have d1' : (mm == 0) = true := by simp [h1]
      by_cases h2 : NN < x
      · have d2 : decide (NN < x) = true := by simpa using h2
        clear h0 h1 h2 hno hNN hmm
        go_enter Tryd.func17, Tryd.ntmps17
        go_wp2_with fail
        go_ret2
        exact ⟨rfl, Below.refl _ _⟩
      · have d2 : decide (NN < x) = false := by simpa using h2
        have hi : isB N x = true := isB_iff.2 ⟨by omega, by omega, by omega⟩
        have hc : clsB z = false := by rw [hi] at hno; exact hno
        have d3 : (sz == 0) = true := by rw [HZ.out, hc]; rfl
        clear h0 h1 h2 hno hNN hmm hi hc
        go_enter Tryd.func17, Tryd.ntmps17
        go_wp2_with (go_at_call 58; refine HS.out.mono ?_; rintro e w1 ⟨rfl, b1⟩; have B1 := Lib.hid b1; clear b1)
        go_ret2
        exact ⟨rfl, B1.out⟩
    · have d1 : (mm != 0) = true := by simp [h1]
      have d1' : (mm == 0) = false := by simp [h1]
      clear h0 h1 hno hNN hmm
      go_enter Tryd.func17, Tryd.ntmps17
      go_wp2_with fail
      go_ret2
      exact ⟨rfl, Below.refl _ _⟩
/-! ### Which slots are to be taken -/
theorem tk_step {N j : Nat} {T : List Int} (hj : j < T.length) (hp : ∀ a ∈ T.take j, 0 ≤ a) :
    ((0 ≤ T[j] ∧ T[j] < N ∧ T[j] ∉ T.take j) → tkOk N ((T.take (j + 1)).map Int.toNat) (T.drop (j + 1)) = tkOk N ((T.take j).map Int.toNat) (T.drop j)) ∧
    (¬ (0 ≤ T[j] ∧ T[j] < N ∧ T[j] ∉ T.take j) → tkOk N ((T.take j).map Int.toNat) (T.drop j) = none) := by
  rw [List.drop_eq_getElem_cons hj]
  have key : (hasB N T[j] = true ∧ T[j].toNat ∉ (T.take j).map Int.toNat) ↔ (0 ≤ T[j] ∧ T[j] < N ∧ T[j] ∉ T.take j) := by
    rw [hasB_iff]
    constructor
    · rintro ⟨⟨h0, h1⟩, h2⟩
      exact ⟨h0, h1, fun e => h2 (List.mem_map.2 ⟨_, e, rfl⟩)⟩
    · rintro ⟨h0, h1, h2⟩
      refine ⟨⟨h0, h1⟩, fun e => ?_⟩
      obtain ⟨a, ha, e⟩ := List.mem_map.1 e
      have := hp a ha
      have e2 : a = T[j] := by omega
      exact h2 (e2 ▸ ha)
  have e : tkOk N ((T.take j).map Int.toNat) (T[j] :: T.drop (j + 1)) = if hasB N T[j] = true ∧ T[j].toNat ∉ (T.take j).map Int.toNat then tkOk N ((T.take j).map Int.toNat ++ [T[j].toNat]) (T.drop (j + 1)) else none := rfl
  rw [e]
  constructor
  · intro h
    rw [if_pos (key.2 h), List.take_succ_eq_append_getElem hj, List.map_append]
    rfl
  · intro h
    rw [if_neg (fun z => h (key.1 z))]
end
end Go.Proofs.YtaelfgdiboekpaaDoor.Ns

/-
  How the document begins a slab: a contract that the claimed proof uses.
-/
namespace Go.Proofs.YtaelfgdiboekpaaDoor.Ns
set_option maxRecDepth 100000
open Go.RowKit
open Ce (u y ldW Mem row)
open Bi (Blk Drawn hasB hasB_iff hasB_not up_alloc up_drew up_trans i64_in ret_i ret_b grown_refl grown_trans grown_below)

section
variable {w w' W : World} {r m gm cap b c h f : Nat} {bs : List (BitVec 8)} {L : List Nat}
/-- The document's slab, begun. -/
def RBegun (m gm b c : Nat) (S : SS) (w : World) (e : Ending) (w' : World) : Prop := ∃ r gm' cap', e = .returned (.tuple #[.pointer (some ⟨r, 0, none⟩), .int .i64 0]) ∧ Rf w' r m gm' cap' S.bs b c S.h S.f ∧ w.heap.size ≤ r ∧ Fr m m w w' ∧ (gm' = gm ∨ w.heap.size ≤ gm')
set_option maxHeartbeats 8000000 in
theorem rwith_head {A : Option Addr} {T : List Int} {n cp : Nat} (hm : RM w m gm cap bs) (hc : c < 12) (hb : isB bs.length (b : Int) = true) {B : Nat} (hA : At B w A (ints T)) (hB : B ≤ m ∧ B ≤ w.heap.size) (hn : T.length = n) (hn2 : n ≤ 1048576) (hcp : n ≤ cp) :
    Calls Tryd.prog 17 #[.pointer (some ⟨m, 0, none⟩), .int .i64 (b : Int), .int .i64 (c : Int), .slice A n cp] w fun e w' =>
      (tkOk (nS c) [] T = none ∧ e = .returned (.tuple #[.pointer none, .int .i64 10]) ∧ Below w.heap.size w w') ∨ ∃ xs, tkOk (nS c) [] T = some xs ∧ RBegun m gm b c (bl b c xs (nS c) ⟨bs, 0, 0⟩) w e w' := by
  obtain ⟨b0, b1, b2⟩ := isB_iff.1 hb
  have m0 : w.cell? ⟨m, 0, none⟩ = some (.slice (some ⟨gm, 0, none⟩) bs.length cap) := hm.mblk.cell
  have HS := Lib.hid (rsize6_any (c : Int) w)
  rw [size_of hc] at HS
  have hz := (cls c hc).1
  have h128 := (cls c hc).2.2.2.1
  have h2N := (cls c hc).2.2.1
  have HM := Lib.hid hm
  have HA := Lib.hid hA
  have HBd := Lib.hid hB
  have HLn := Lib.hid hn
  have HC0 := Lib.hid hc
  have HFit : Hid (b + 1024 ≤ bs.length) := by show _ ≤ _; omega
  obtain ⟨LN, hLN⟩ : ∃ LN, bs.length = LN := ⟨_, rfl⟩
  have hl := hm.len
  rw [hLN] at m0 hl b1
  obtain ⟨NN, hNN⟩ : ∃ NN, (LN : Int) - 1024 = NN := ⟨_, rfl⟩
  have w1 : IntKind.i64.wrap ((LN : Int) - 1024) = NN := by rw [IntKind.wrap_i64]; omega
  obtain ⟨x, hx⟩ : ∃ x : Int, (b : Int) = x := ⟨_, rfl⟩
  have d0 : decide (x < 0) = false := decide_eq_false (by omega)
  have e1 : x.tmod 1024 = 0 := by rw [Int.tmod_eq_emod_of_nonneg (by omega)]; omega
  have d2 : decide (NN < x) = false := decide_eq_false (by omega)
  have d3 : ((zN c : Int) == 0) = false := by rw [beq_eq_false_iff_ne]; omega
  have HX := Lib.hid hx
  rw [hx]
  obtain ⟨N, hN⟩ : ∃ N, nS c = N := ⟨_, rfl⟩
  have HNc := Lib.hid hN
  rw [hN] at h128 h2N ⊢
  generalize zN c = z at *
  obtain ⟨yc, hyc⟩ : ∃ yc : Int, (c : Int) = yc := ⟨_, rfl⟩
  have HYc := Lib.hid hyc
  rw [hyc] at HS
  rw [hyc]
  clear hm hA hn hc hb hB b0 b1 b2 hLN hNN hx hN hz hyc
  go_enter Tryd.func17, Tryd.ntmps17
  go_wp2_with (go_at_call 58; refine HS.out.mono ?_; rintro e w1 ⟨rfl, b1⟩; have B1 := Lib.hid b1; clear b1)
  obtain ⟨r, hr⟩ : ∃ r, w1.heap.size = r := ⟨_, rfl⟩
  rw [hr]
  have B2 := Lib.hid (up_alloc B1.out (.cells #[.pointer (some ⟨m, 0, none⟩), .int .i64 x, .int .i64 yc, .int .i64 (-1), .int .i64 0] 108))
  have X2 : Hid (Rf (w1.alloc (.cells #[.pointer (some ⟨m, 0, none⟩), .int .i64 x, .int .i64 yc, .int .i64 (-1), .int .i64 0] 108)) r m gm cap bs b c 0 0) := by
    refine (HM.out.below B2.out).rf ?_ HC0.out HFit.out
    rw [← hr, HX.out, HYc.out]; exact heap_alloc_new w1 _
  have HRs : Hid (w.heap.size ≤ r) := by show _ ≤ _; have := B1.out.size; omega
  obtain ⟨w2, hw2⟩ : ∃ w2, w1.alloc (.cells #[.pointer (some ⟨m, 0, none⟩), .int .i64 x, .int .i64 yc, .int .i64 (-1), .int .i64 0] 108) = w2 := ⟨_, rfl⟩
  rw [hw2] at B2 X2 ⊢
  clear HS m0 w1 d0 e1 d2 d3 hr hw2 B1
  go_loopw [11] (fun i wr => ∃ (j : Nat), j ≤ n ∧ i = .int .i64 (j : Int) ∧ tkOk N ((T.take j).map Int.toNat) (T.drop j) = tkOk N [] T ∧ (∀ a ∈ T.take j, 0 ≤ a) ∧ Rf wr r m gm cap bs b c 0 0 ∧ Below w.heap.size w wr) (fun i _ => n - (intOf i).toNat)
  case atStart => exact ⟨0, by omega, rfl, rfl, fun a ha => by simp at ha, X2.out, B2.out⟩
  case round =>
    obtain ⟨j, hj, rfl, hx, hnn, hxr, hb⟩ := hrel
    have HXx := Lib.hid hx
    have HNnn := Lib.hid hnn
    have HXr := Lib.hid hxr
    have HBr := Lib.hid hb
    clear hx hnn hxr hb
    by_cases hlt : j < n
    · have hjl : j < T.length := by rw [HLn.out]; exact hlt
      have hLi := HA.out.below (Below.down HBr.out HBd.out.2)
      have hszr := HBr.out.size
      obtain ⟨b', o', rfl, hb0, q0⟩ := hLi.int hjl
      have hbl : b' < wr.heap.size := by have := HBd.out.2; omega
      have HLi := Lib.hid (hLi.more (show B ≤ wr.heap.size by have := HBd.out.2; omega))
      have HTl : Hid ((T.take j).length = j) := by show _ = _; rw [List.length_take]; omega
      obtain ⟨g1, g2⟩ := tk_step (N := N) hjl HNnn.out
      rw [HXx.out] at g1 g2
      have HTs : Hid (T.take (j + 1) = T.take j ++ [T[j]]) := List.take_succ_eq_append_getElem hjl
      obtain ⟨t, ht⟩ : ∃ t, T[j] = t := ⟨_, rfl⟩
      rw [ht] at q0 g1 g2 HTs
      have G1 := Lib.hid g1
      have G2 := Lib.hid g2
      have j1 : (0 : Int) ≤ (j : Int) := by omega
      have j2 : (j : Int) < (n : Int) := by omega
      have j3 : (j : Int) ≤ (cp : Int) := by omega
      clear hjl hLi g1 g2 ht
      by_cases h0 : t < 0
      · have d : decide (t < 0) = true := decide_eq_true h0
        have HNone := Lib.hid (G2.out (fun z => by omega))
        clear h0 G1 G2
        go_wp2_with fail
        refine region_in (fun W => Below wr.heap.size wr W) (by kernel_rfl) (by kernel_rfl) (Below.refl _ wr).drew ?_
        intro ι ine fw hS hT
        have HSS := Lib.hid hS
        have s0 : ∀ n, (fw n).cell? ⟨b', o' + j, none⟩ = some (.int .i64 t) := fun n => ((HSS.out n).cell (p := ⟨b', o' + j, none⟩) hbl).trans q0
        clear hS hT
        repeat (go_big_quiet_step (fail))
        refine wpQuiet_nil ?_
        rintro _ ⟨n1, rfl⟩
        have B9 := Lib.hid (HSS.out n1)
        have B10 := Lib.hid (up_trans HBr.out B9.out)
        clear s0 
        go_wp2_with fail
        go_ret2
        exact .inl ⟨HNone.out, rfl, B10.out⟩
      · have d : decide (t < 0) = false := decide_eq_false h0
        by_cases h1 : (N : Int) ≤ t
        · have d1 : decide ((N : Int) ≤ t) = true := decide_eq_true h1
          have HNone := Lib.hid (G2.out (fun z => by omega))
          clear h0 h1 G1 G2
          go_wp2_with fail
          refine region_in (fun W => Below wr.heap.size wr W) (by kernel_rfl) (by kernel_rfl) (Below.refl _ wr).drew ?_
          intro ι ine fw hS hT
          have HSS := Lib.hid hS
          have s0 : ∀ n, (fw n).cell? ⟨b', o' + j, none⟩ = some (.int .i64 t) := fun n => ((HSS.out n).cell (p := ⟨b', o' + j, none⟩) hbl).trans q0
          have HC59 : Hid (∀ n, Calls Tryd.prog 59 #[.pointer (some ⟨r, 0, none⟩)] (fw n) fun e w' => e = .returned (.int .i64 (N : Int)) ∧ ∃ j, w' = fw j) := fun n => (rslots_any (HXr.out.below (HSS.out n))).mono fun e w' ⟨he, hb⟩ => ⟨by rw [he, HNc.out], hT w' (up_trans (HSS.out n) hb)⟩
          clear hS hT
          repeat (go_big_quiet_step ((go_at_call 59; exact HC59.out _)))
          refine wpQuiet_nil ?_
          rintro _ ⟨n1, rfl⟩
          have B9 := Lib.hid (HSS.out n1)
          have B10 := Lib.hid (up_trans HBr.out B9.out)
          clear s0 HC59
          go_wp2_with fail
          go_ret2
          exact .inl ⟨HNone.out, rfl, B10.out⟩
        · have d1 : decide ((N : Int) ≤ t) = false := decide_eq_false h1
          by_cases h2 : t ∈ T.take j
          · obtain ⟨BV, hBV⟩ : ∃ BV, decide (t ∈ T.take j) = BV := ⟨_, rfl⟩
            have HBV := Lib.hid hBV
            obtain rfl : BV = true := by rw [← hBV]; exact decide_eq_true h2
            have HNone := Lib.hid (G2.out (fun z => z.2.2 h2))
            clear h0 h1 h2 G1 G2 hBV
            go_wp2_with fail
            refine region_in (fun W => Below wr.heap.size wr W) (by kernel_rfl) (by kernel_rfl) (Below.refl _ wr).drew ?_
            intro ι ine fw hS hT
            have HSS := Lib.hid hS
            have s0 : ∀ n, (fw n).cell? ⟨b', o' + j, none⟩ = some (.int .i64 t) := fun n => ((HSS.out n).cell (p := ⟨b', o' + j, none⟩) hbl).trans q0
            have HC59 : Hid (∀ n, Calls Tryd.prog 59 #[.pointer (some ⟨r, 0, none⟩)] (fw n) fun e w' => e = .returned (.int .i64 (N : Int)) ∧ ∃ j, w' = fw j) := fun n => (rslots_any (HXr.out.below (HSS.out n))).mono fun e w' ⟨he, hb⟩ => ⟨by rw [he, HNc.out], hT w' (up_trans (HSS.out n) hb)⟩
            have HC30 : Hid (∀ n, Calls Tryd.prog 30 #[.slice (some ⟨b', o', none⟩) j cp, .int .i64 t] (fw n) fun e w' => e = .returned (.bool true) ∧ ∃ j, w' = fw j) := fun n => (in_at (T.take j) (some ⟨b', o', none⟩) cp j t (fw n) ((HLi.out.take j).up (HSS.out n)) HTl.out (by omega)).mono fun e w' ⟨he, hb⟩ => ⟨by rw [he, HBV.out], ⟨n, hb.symm⟩⟩
            clear hS hT
            repeat (go_big_quiet_step ((first | (go_at_call 59; exact HC59.out _) | (go_at_call 30; exact HC30.out _))))
            refine wpQuiet_nil ?_
            rintro _ ⟨n1, rfl⟩
            have B9 := Lib.hid (HSS.out n1)
            have B10 := Lib.hid (up_trans HBr.out B9.out)
            clear s0 HC59 HC30
            go_wp2_with fail
            go_ret2
            exact .inl ⟨HNone.out, rfl, B10.out⟩
          · obtain ⟨BV, hBV⟩ : ∃ BV, decide (t ∈ T.take j) = BV := ⟨_, rfl⟩
            have HBV := Lib.hid hBV
            obtain rfl : BV = false := by rw [← hBV]; exact decide_eq_false h2
            have HSt := Lib.hid (G1.out ⟨by omega, by omega, h2⟩)
            have HNn : Hid (∀ a ∈ T.take (j + 1), 0 ≤ a) := fun a ha => by
              rw [HTs.out] at ha
              rcases List.mem_append.1 ha with ha | ha
              · exact HNnn.out a ha
              · rw [List.mem_singleton.1 ha]; omega
            clear h0 h1 h2 G1 G2 hBV
            go_wp2_with fail
            refine region_in (fun W => Below wr.heap.size wr W) (by kernel_rfl) (by kernel_rfl) (Below.refl _ wr).drew ?_
            intro ι ine fw hS hT
            have HSS := Lib.hid hS
            have s0 : ∀ n, (fw n).cell? ⟨b', o' + j, none⟩ = some (.int .i64 t) := fun n => ((HSS.out n).cell (p := ⟨b', o' + j, none⟩) hbl).trans q0
            have HC59 : Hid (∀ n, Calls Tryd.prog 59 #[.pointer (some ⟨r, 0, none⟩)] (fw n) fun e w' => e = .returned (.int .i64 (N : Int)) ∧ ∃ j, w' = fw j) := fun n => (rslots_any (HXr.out.below (HSS.out n))).mono fun e w' ⟨he, hb⟩ => ⟨by rw [he, HNc.out], hT w' (up_trans (HSS.out n) hb)⟩
            have HC30 : Hid (∀ n, Calls Tryd.prog 30 #[.slice (some ⟨b', o', none⟩) j cp, .int .i64 t] (fw n) fun e w' => e = .returned (.bool false) ∧ ∃ j, w' = fw j) := fun n => (in_at (T.take j) (some ⟨b', o', none⟩) cp j t (fw n) ((HLi.out.take j).up (HSS.out n)) HTl.out (by omega)).mono fun e w' ⟨he, hb⟩ => ⟨by rw [he, HBV.out], ⟨n, hb.symm⟩⟩
            clear hS hT
            repeat (go_big_quiet_step ((first | (go_at_call 59; exact HC59.out _) | (go_at_call 30; exact HC30.out _))))
            refine wpQuiet_nil ?_
            rintro _ ⟨n1, rfl⟩
            have B9 := Lib.hid (HSS.out n1)
            have B10 := Lib.hid (up_trans HBr.out B9.out)
            clear s0 HC59 HC30
            go_wp2_with fail
            go_roundw
            case rel => exact ⟨j + 1, by omega, by go_num, HSt.out, HNn.out, HXr.out.below B9.out, B10.out⟩
            case measure => simp [intOf]; omega
    · obtain rfl : j = n := by omega
      have HTT : Hid (T.take j = T) := List.take_of_length_le (by rw [HLn.out]; exact Nat.le_refl _)
      have HXF : Hid (tkOk N [] T = some (T.map Int.toNat)) := by
        have := HXx.out
        rw [HTT.out, List.drop_of_length_le (by rw [HLn.out]; exact Nat.le_refl _)] at this
        exact this.symm
      have HIn : Hid (∀ k : Nat, ((k : Int) ∈ T ↔ k ∈ T.map Int.toNat)) := fun k => by
        have hp := HNnn.out
        rw [HTT.out] at hp
        rw [List.mem_map]
        constructor
        · intro e; exact ⟨_, e, by simp⟩
        · rintro ⟨a, ha, e⟩
          have := hp a ha
          have e2 : a = (k : Int) := by omega
          rw [← e2]; exact ha
      have HSl : Hid (Calls Tryd.prog 59 #[.pointer (some ⟨r, 0, none⟩)] wr fun e w' => e = .returned (.int .i64 (N : Int)) ∧ Below wr.heap.size wr w') := by have := rslots_any HXr.out; rw [HNc.out] at this; exact this
      have w1 : IntKind.i64.wrap ((N : Int) - 1) = (N : Int) - 1 := by rw [IntKind.wrap_i64]; omega
      generalize T.map Int.toNat = xs at *
      clear HXx HNnn HTT
      go_wp2_with fail
      refine HSl.out.mono ?_
      rintro e w3 ⟨rfl, b3⟩
      have B3 := Lib.hid (up_trans HBr.out b3)
      have X3 := Lib.hid (HXr.out.below b3)
      clear HSl b3 HXr HBr
      go_wp2_with fail
      clear w1
      go_loopw [12] (fun i wq => ∃ (k : Nat) (S : SS) (L : List Nat) (gm' cap' : Nat), k ≤ N ∧ i = .int .i64 ((k : Int) - 1) ∧ Rf wq r m gm' cap' S.bs b c S.h S.f ∧ bl b c xs k S = bl b c xs N ⟨bs, 0, 0⟩ ∧ Ok b c bs.length S L ∧ (∀ x ∈ L, k ≤ x) ∧ Fr m m w wq ∧ (gm' = gm ∨ w.heap.size ≤ gm')) (fun i _ => (intOf i + 1).toNat)
      case atStart => exact ⟨N, ⟨bs, 0, 0⟩, [], gm, cap, by omega, rfl, X3.out, rfl, ok_zero rfl, fun x hx => (by cases hx), Fr.of B3.out, .inl rfl⟩
      case round =>
        obtain ⟨k, S, L, gm', cap', hk, rfl, hx, hbl, hok, hL, hfr, hgm⟩ := hrel
        have HX2 := Lib.hid hx
        have HBl := Lib.hid hbl
        have HOk := Lib.hid hok
        have HL := Lib.hid hL
        have HF2 := Lib.hid hfr
        have HGm := Lib.hid hgm
        clear hx hbl hok hL hfr hgm
        by_cases hz : k = 0
        · subst hz
          have ez : ((0 : Nat) : Int) - 1 = -1 := rfl
          rw [ez]
          go_wp2_with fail
          go_ret2
          refine .inr ⟨xs, HXF.out, r, gm', cap', rfl, ?_, HRs.out, HF2.out, HGm.out⟩
          have e := HBl.out
          rw [show bl b c xs 0 S = S from rfl] at e
          rw [← e]; exact HX2.out
        · obtain ⟨y, rfl⟩ : ∃ y, k = y + 1 := ⟨k - 1, by omega⟩
          have ek : ((y + 1 : Nat) : Int) - 1 = (y : Int) := by omega
          rw [ek]
          have hyN : y < N := by omega
          have hszq := HF2.out.size
          have hI := in_at T A cp j (y : Int) _ ((HA.out.below (HF2.out.below HBd.out.1 HBd.out.1 HBd.out.2)).more (by have := HBd.out.2; omega)) HLn.out (by omega)
          have w1 : IntKind.i64.wrap ((y : Int) - 1) = (y : Int) - 1 := by rw [IntKind.wrap_i64]; omega
          clear hz ek
          by_cases hin : y ∈ xs
          · have HI := Lib.hid hin
            rw [show decide ((y : Int) ∈ T) = true from decide_eq_true ((HIn.out y).2 hin)] at hI
            have HJ := Lib.hid hI
            clear hin hI
            go_wp2_with fail
            refine HJ.out.mono ?_
            rintro e w2 ⟨rfl, rfl⟩
            clear HJ
            go_wp2_with fail
            go_roundw
            case rel =>
              refine ⟨y, S, L, gm', cap', by omega, rfl, HX2.out, ?_, HOk.out, fun x hx => by have := HL.out x hx; omega, HF2.out, HGm.out⟩
              rw [← HBl.out]
              show _ = bl b c xs y (if y ∈ xs then S else S.push b c y)
              rw [if_pos HI.out]
            case measure => simp [intOf]
          · have HI := Lib.hid hin
            rw [show decide ((y : Int) ∈ T) = false from decide_eq_false (fun z => hin ((HIn.out y).1 z))] at hI
            have HJ := Lib.hid hI
            have hyc : y < nS c := by rw [HNc.out]; exact hyN
            have hyL : y ∉ L := fun hh => by have := HL.out y hh; omega
            have HYc2 := Lib.hid hyc
            have HYL := Lib.hid hyL
            have HLt := Lib.hid (HOk.out.lt hyc hyL)
            have HLay := Lib.hid (rlay_any y HX2.out hyc)
            have r3 := HX2.out.r3
            clear hin hI hyc hyL
            go_wp2_with fail
            refine HJ.out.mono ?_
            rintro e w2 ⟨rfl, rfl⟩
            clear HJ
            go_wp2_with fail
            refine HLay.out.mono ?_
            rintro e w3 ⟨rfl, gm2, cap2, y3, fr3, hg3⟩
            have Y3 := Lib.hid y3
            have F3 := Lib.hid fr3
            have HG2 : Hid (gm2 = gm ∨ w.heap.size ≤ gm2) := .inr (Nat.le_trans HF2.out.size hg3)
            have q3 := y3.r3
            have q4 := y3.r4
            have f3 := y3.blk.frozen 3
            have f4 := y3.blk.frozen 4
            obtain ⟨f1, hf1⟩ : ∃ f1, S.f + 1 = f1 := ⟨_, rfl⟩
            have HT := Lib.hid (y3.turned (h' := y + 1) (f' := f1) HYc2.out (by have := HLt.out; omega))
            have w5 : IntKind.i64.wrap ((S.f : Int) + 1) = (f1 : Int) := by have := HLt.out; rw [HNc.out] at this; rw [IntKind.wrap_i64]; omega
            rw [show (((y + 1 : Nat) : Int) - 1) = (y : Int) by omega] at HT
            have HF1 := Lib.hid hf1
            have hlw := HF2.out.size
            clear y3 fr3 hg3 HLay r3 hf1
            go_wp2_with fail
            go_roundw
            case rel =>
              obtain ⟨y4, fr4⟩ := HT.out
              refine ⟨y, S.push b c y, y :: L, gm2, cap2, by omega, rfl, ?_, ?_, HOk.out.push HC0.out HFit.out HYc2.out HYL.out, fun x hx => ?_, (HF2.out.trans F3.out).new fr4.wide1 HRs.out, HG2.out⟩
              · show Rf _ r m gm2 cap2 (lay S.bs b c y S.h) b c (y + 1) (S.f + 1)
                rw [HF1.out]; exact y4
              · rw [← HBl.out]
                show _ = bl b c xs y (if y ∈ xs then S else S.push b c y)
                rw [if_neg HI.out]
              · rcases List.mem_cons.1 hx with rfl | hx
                · omega
                · have := HL.out x hx; omega
            case measure => simp [intOf]
end
end Go.Proofs.YtaelfgdiboekpaaDoor.Ns
