/-
  The walk of the statement on slabs that are filled and emptied.
-/
import Derived.Test.YtiemgeflkmbfoaaDoorOsInts
import Derived.Deep.DeepCutAuto
namespace Go.Proofs.YtiemgeflkmbfoaaDoor.Os
set_option maxRecDepth 100000
open Go.RowKit
open Ta (sz szs classB classB_iff classB_not sizeOf' slotsOf)
open Bi (sets bt on first setL setB tst hasB u Blk Drawn grown_refl grown_trans grown_below up_alloc up_drew up_trans i64_in ret_i ret_b)

theorem own_ia {w : World} {base n : Nat} {A : Option Addr} {cap : Nat} {xs : List Int} (h : w.ownsRow base 3 1 (.slice A n cap) n (ints xs)) (hn : xs.length = n) : IA w.heap.size w A xs := fun hp => by
  rcases h.2 with ⟨_, h0⟩ | ⟨g', cap', cur, h', _, hb, _⟩
  · omega
  · cases h'
    exact own_ints h hn hp
theorem no_slab (w : World) (t : Int) (b c : Int) (hT : Tb w) (h : (baseB b && classB c) = false) : Calls Tryd.prog 5 #[.int .i64 b, .int .i64 c, .int .i64 t] w fun e w' => e = .returned (.bool true) ∧ Below w.heap.size w w' := by
  have HA := Lib.hid (alive_any w hT)
  have HN := Lib.hid (fun (V : World) (hV : Below w.heap.size w V) => new_no (hT.below hV) h)
  clear hT h
  go_enter Tryd.func5, Tryd.ntmps5
  go_wp2_with (first
    | (go_at_call 7; refine HA.out.mono ?_; rintro e w1 ⟨rfl, b1⟩; have B1 := Lib.hid b1; have HN1 := Lib.hid (HN.out _ b1); clear b1)
    | (go_at_call 12; refine HN1.out.mono ?_; rintro e w' ⟨rfl, rfl⟩))
  go_ret
  exact ⟨rfl, B1.out⟩
set_option maxHeartbeats 16000000 in
theorem all_yes (w : World) (t : Int) (b c : Int) (hT : Tb w) (hb : baseB b = true) (hc : classB c = true) : Calls Tryd.prog 5 #[.int .i64 b, .int .i64 c, .int .i64 t] w fun e w' => e = .returned (.bool true) ∧ Below w.heap.size w w' := by
  have HA := Lib.hid (alive_any w hT)
  have HN := Lib.hid (fun (V : World) (hV : Below w.heap.size w V) => new_yes (hT.below hV) hb hc)
  unfold GaveN at HN
  have HT := Lib.hid hT
  obtain ⟨z0, z1, n0, n1, nz, _, _⟩ := cls hc
  obtain ⟨b0, b1, _⟩ := baseB_iff.1 hb
  obtain ⟨n, hn⟩ : ∃ n, nS c = n := ⟨_, rfl⟩
  obtain ⟨z, hz⟩ : ∃ z, sizeOf' c = z := ⟨_, rfl⟩
  rw [hn] at n0 n1 nz
  rw [hz] at nz z0 z1
  have HZ := Lib.hid hz
  have HS0 : Hid (l0 c = st n 0) := by show _ = _; rw [← hn, st_zero]
  have HNz := Lib.hid nz
  have HR : Hid (∀ k : Nat, k < n → I64 (b + k * z)) := fun k hk => by
    have h3 : (k : Int) * z ≤ 64 * 512 := Int.mul_le_mul (by omega) z1 (by omega) (by omega)
    have h4 : 0 ≤ (k : Int) * z := Int.mul_nonneg (by omega) (by omega)
    unfold I64; omega
  clear hT hb hc hn hz nz
  go_enter Tryd.func5, Tryd.ntmps5
  go_wp2_with (first
    | (go_at_call 7; refine HA.out.mono ?_; rintro e w1 ⟨rfl, b1⟩; have B1 := Lib.hid b1; have HN1 := Lib.hid (HN.out _ b1); clear b1)
    | (go_at_call 12; refine HN1.out.mono ?_; rintro e w2 ⟨b2, s, q2, g2, rfl, s2, hs2, hg2⟩))
  have hw1 := B1.out.size
  have E2 : Hid (Ev w w2 s q2 g2 b c (st n 0)) := ⟨by rw [← HS0.out]; exact s2, by omega, by omega, up_trans B1.out b2, HT.out.below (up_trans B1.out b2)⟩
  have HB2 := Lib.hid E2.out.bel
  have HP := Lib.hid E2.out.tb.lt
  clear b2 s2 hs2 hg2 HN HN1 HA HT B1 hw1
  go_loopw [9, 10] (fun v i wr => ∃ (k : Nat) (q g : Nat), k ≤ n ∧ i = .int .i64 k ∧ wr.ownsRow w2.heap.size 3 1 v k (ints (ads b z (List.range k))) ∧ Ev w wr s q g b c (st n k) ∧ w2.heap.size ≤ wr.heap.size) (fun _ i _ => n - (intOf i).toNat)
  case atStart =>
    have hb2 : Below w2.heap.size w2 (w2.alloc (.cells #[] 3)) := up_alloc (Below.refl _ _) _
    exact ⟨0, q2, g2, by omega, rfl, iown_empty w2, E2.out.below hb2, hb2.size⟩
  case round =>
    obtain ⟨k, q, g, hk, rfl, ho, hev, hsz⟩ := hrel
    obtain ⟨A0, n0', rfl⟩ := own_form ho
    have HO := Lib.hid ho
    have HE := Lib.hid hev
    have hsl := Lib.hid (slots_any hev.sl)
    rw [st_len hk] at hsl
    clear ho hev E2
    by_cases hlt : k < n
    · obtain ⟨e1, e2, e3, e4⟩ := st_take hlt
      have HTk := Lib.hid (take_any HE.out.sl HE.out.tb)
      rw [e2, e3, e4, HZ.out] at HTk
      have hx := HR.out k hlt
      have HX : Hid (slotI n b z (b + k * z) = k) := slot_at (by omega) hlt
      have HSn : Hid (ads b z (List.range (k + 1)) = ads b z (List.range k) ++ [b + k * z]) := ads_snoc b z k
      have hfk : (fr (st n (k + 1)) : Int) = n - (k : Int) - 1 := by rw [st_fr (by omega)]; omega
      have HFK := Lib.hid hfk
      obtain ⟨x, hxx⟩ : ∃ x, b + (k : Int) * z = x := ⟨_, rfl⟩
      rw [hxx] at HTk hx HX HSn
      have HI := Lib.hid hx
      have w1 := i64_in ((n : Int) - k) (by omega) (by omega)
      have w2' := i64_in ((n : Int) - k - 1) (by omega) (by omega)
      have hkk : ((k : Int) != (k : Int)) = false := by simp
      have hk2 : k ≤ 1048576 := by omega
      have hlt2 : decide ((k : Int) < (n : Int)) = true := by simpa using hlt
      have hd3 : ((n : Int) - k - 1 != (n : Int) - k - 1) = false := by simp
      clear e1 e2 e3 e4 hxx hx hfk
      go_wp2_with (first
        | (go_at_call 23; refine hsl.out.mono ?_; rintro e w' ⟨rfl, rfl⟩)
        | (go_at_call 24; refine HTk.out.mono ?_; rintro e w3 ⟨rfl, h3⟩; obtain ⟨q3, g3, E3⟩ := HE.out.step h3; have E3 := Lib.hid E3; have O3 := Lib.hid (own_far HO.out h3.fr HE.out.sl.kinds.1 HE.out.sl.kinds.2.2 (by decide) (by decide)); have hz3 := Nat.le_trans hsz h3.fr.size; have HSl := Lib.hid (slot_any x HI.out E3.out.sl E3.out.tb); rw [HZ.out, st_len (show k + 1 ≤ n by omega), HX.out] at HSl; have hsle : sle (k : Int) = 0 := if_neg (by omega); rw [hsle] at HSl; have HFr := Lib.hid (free_any E3.out.sl); rw [HFK.out] at HFr; clear h3 hsle)
        | (go_at_call 18; refine HSl.out.mono ?_; rintro e w' ⟨rfl, rfl⟩)
        | (go_at_call 25; refine HFr.out.mono ?_; rintro e w4 ⟨rfl, d4⟩; have E4 := Lib.hid (E3.out.below d4.below); have O4 := Lib.hid (own_below O3.out d4.below); have hz4 := Nat.le_trans hz3 d4.below.size; have hsl4 := Lib.hid (slots_any E4.out.sl); rw [st_len (show k + 1 ≤ n by omega)] at hsl4; clear d4)
        | (go_at_call 23; refine hsl4.out.mono ?_; rintro e w' ⟨rfl, rfl⟩)
        | (at_builtin; refine app_law el3 rfl _ _ rfl rfl (own_below O4.out (up_alloc (Below.refl _ _) _)) rfl (show (w4.alloc (.cells #[.int .i64 x] 3)).heap[w4.heap.size]? = some (.cells [Value.int .i64 x].toArray 3 (0, 0)) from heap_alloc_last w4 _) rfl (by simp [Value.oneCell']) hk2 (by rw [World.size_alloc]; omega) ?_; intro g' cap' wa hoa hga hgw))
      go_roundw
      case rel =>
        have hb4 : Below w4.heap.size w4 (w4.alloc (.cells #[.int .i64 x] 3)) := up_alloc (Below.refl _ _) _
        have E5 := E4.out.below hb4
        have hkk : ∀ j, (Value.slice A0 k n0').ownBlock = some j → kind (w4.alloc (.cells #[.int .i64 x] 3)) j = 3 := fun j hj => by
          obtain ⟨cur, hc⟩ := own_cells (own_below O4.out hb4) hj
          exact kind_of hc
        obtain ⟨kk1, kk2, kk3⟩ := E5.sl.kinds
        obtain ⟨ll1, ll2, ll3⟩ := E5.sl.lt
        have hstay : ∀ j, j < (w4.alloc (.cells #[.int .i64 x] 3)).heap.size → kind (w4.alloc (.cells #[.int .i64 x] 3)) j ≠ 3 → wa.heap[j]? = (w4.alloc (.cells #[.int .i64 x] 3)).heap[j]? := fun j hj hne => hga.out.block j hj (fun e => hne (hkk j e.symm))
        have hwz : w.heap.size ≤ w2.heap.size := HB2.out.size
        refine ⟨k + 1, q3, g3, by omega, by go_num, by rw [HSn.out, show ints (ads b z (List.range k) ++ [x]) = ints (ads b z (List.range k)) ++ [.int .i64 x] from ints_snoc _ x]; exact hoa.out, ⟨E5.sl.of (hstay s ll1 (by rw [kk1]; decide)) (hstay q3 ll2 (by rw [kk2]; decide)) (hstay g3 ll3 (by rw [kk3]; decide)), E5.hs, E5.hg, ?_, ?_⟩, ?_⟩
        · exact E5.bel.grown hga.out E5.bel.size (fun g hg => Nat.le_trans hwz (O4.out.lt g hg).1)
        · exact E5.tb.drop (B := w2.heap.size) ((Below.refl _ _).grown hga.out (by rw [World.size_alloc]; omega) (fun g hg => (O4.out.lt g hg).1)) HP.out
        · have := hga.out.size; rw [World.size_alloc] at this; omega
      case measure => simp [intOf]; omega
    · obtain rfl : k = n := by omega
      obtain ⟨e1, e2, e3, e4⟩ := st_full (show 1 ≤ k by omega)
      have HTk := Lib.hid (take_any HE.out.sl HE.out.tb)
      rw [e1, e2, e4] at HTk
      have hlt2 : decide ((k : Int) < (k : Int)) = false := by simp
      have HSt2 := Lib.hid e3
      obtain ⟨gl, rfl⟩ : ∃ gl, A0 = some ⟨gl, 0, none⟩ := by
        obtain ⟨j, rfl⟩ : ∃ j, k = j + 1 := ⟨k - 1, by omega⟩
        obtain ⟨g', c', e⟩ := own_some HO.out
        cases e
        exact ⟨_, rfl⟩
      clear e1 e2 e3 e4
      go_wp2_with (first
        | (go_at_call 23; refine hsl.out.mono ?_; rintro e w' ⟨rfl, rfl⟩)
        | (go_at_call 24; refine HTk.out.mono ?_; rintro e w3 ⟨rfl, h3⟩; obtain ⟨q3, g3, E3⟩ := HE.out.step h3; have E3 := Lib.hid E3; have O3 := Lib.hid (own_far HO.out h3.fr HE.out.sl.kinds.1 HE.out.sl.kinds.2.2 (by decide) (by decide)); have hz3 := Nat.le_trans hsz h3.fr.size; have HSt := Lib.hid (state_any E3.out.sl); rw [HSt2.out] at HSt; clear h3)
        | fail)
      refine HSt.out.mono ?_
      rintro e w4 ⟨rfl, d4⟩
      have E4 := Lib.hid (E3.out.below d4.below)
      have O4 := Lib.hid (own_below O3.out d4.below)
      have hz4 := Nat.le_trans hz3 d4.below.size
      clear d4 HSt HSt2 HTk hsl HE HO E3 O3
      go_upto_region 18 with fail
      go_cut [96] (fun s96 wx => ∃ q : Bool, q = decide (t < 0 ∨ (k : Int) < t) ∧ s96 = .bool q ∧ wx = w4)
      case first =>
        by_cases q1 : t < 0
        · have d1 : decide (t < 0) = true := by simpa using q1
          go_wp2_with fail
          go_meet
          case rel => exact ⟨true, by symm; simp [q1], rfl, rfl⟩
        · have d1 : decide (t < 0) = false := by simpa using q1
          go_wp2_with fail
          go_meet
          case rel => exact ⟨_, by rw [decide_eq_decide]; omega, rfl, rfl⟩
      case rest =>
      obtain ⟨q1, hq1, rfl, rfl⟩ := hcut
      have HBB := Lib.hid hq1
      clear hq1
      obtain ⟨wd, rfl⟩ : ∃ wd : World, wd = wc := ⟨wc, rfl⟩
      go_upto_if 96 with fail
      go_cut [2] (fun s2 wx => ∃ x : Nat, x ≤ k ∧ s2 = .int .i64 x ∧ wx = wd)
      case first =>
        cases q1 with
        | true =>
          go_wp2_with fail
          go_meet
          case rel => exact ⟨0, by omega, rfl, rfl⟩
        | false =>
          have hno : ¬ (t < 0 ∨ (k : Int) < t) := by have := HBB.out.symm; simpa using this
          go_wp2_with fail
          go_meet
          case rel => exact ⟨t.toNat, by omega, by rw [Int.toNat_of_nonneg (by omega)], rfl⟩
      case rest =>
      obtain ⟨x, hx, rfl, rfl⟩ := hcut
      obtain ⟨we, rfl⟩ : ∃ we : World, we = wc := ⟨wc, rfl⟩
      clear HBB
      have HNL : Hid ((ads b z (List.range k)).length = k) := by show _ = _; rw [ads_len, List.length_range]
      have HAR : Hid (ads b z (rot k x) = (ads b z (List.range k)).drop x ++ (ads b z (List.range k)).take x) := ads_rot b z k x
      obtain ⟨P, hP⟩ : ∃ P, ads b z (List.range k) = P := ⟨_, rfl⟩
      rw [hP] at HNL O4 HAR
      clear hP
      go_upto_region 20 with fail
      have hgl := Bi.own_lt O4.out
      have hcap : k ≤ n0' := by
        rcases O4.out.2 with ⟨h', _⟩ | ⟨g', cap', cur, h', _, _, h1, _⟩
        · simp at h'
        · simp only [Value.slice.injEq, Option.some.injEq, Addr.mk.injEq, and_true, true_and] at h'
          obtain ⟨rfl, rfl⟩ := h'; exact h1
      go_cut [9] (fun o wx => ∃ g2 cap2 : Nat, o = .slice (some ⟨g2, 0, none⟩) k cap2 ∧ wx.ownsRow we.heap.size 3 1 (.slice (some ⟨g2, 0, none⟩) k cap2) k (ints (P.drop x ++ P.take x)) ∧ Below we.heap.size we wx)
      case first =>
        have hal : Below we.heap.size we (we.alloc (.cells #[] 3)).drew := (up_alloc (Below.refl _ _) _).drew
        have HAL := Lib.hid hal
        have OE : Hid ((we.alloc (.cells #[] 3)).drew.ownsRow we.heap.size 3 1 (.slice (some ⟨we.heap.size, 0, none⟩) 0 0) 0 (ints [])) := (iown_empty we).kept (grown_below (r := none) (Below.refl _ _).drew) (.inr (by simp [Value.ownBlock]))
        have HI := Lib.hid ((own_ints O4.out HNL.out).below hal)
        have hszz := hal.size
        have s0 : (0 : Int) ≤ (x : Int) := by omega
        have s1 : (x : Int) ≤ (k : Int) := by omega
        have s2 : x ≤ n0' := by omega
        have hd : (P.drop x).length = k - x := by rw [List.length_drop, HNL.out]
        have ht : (P.take x).length = x := by rw [List.length_take, HNL.out]; omega
        have HD := Lib.hid hd
        have HTk2 := Lib.hid ht
        clear hal hd ht
        by_cases hsc : x = n0'
        · obtain rfl : k = x := by omega
          obtain rfl : n0' = k := hsc.symm
          have hdn : P.drop n0' = [] := List.drop_eq_nil_of_le (by rw [HNL.out]; omega)
          have HDN := Lib.hid hdn
          clear hdn hsc
          go_region_law (first
            | (refine step_app0 (by rfl) (.tmp 97) (.tmp 100) (by rfl) we.heap.size we.heap.size 0 0 0 we.heap.size [] (some ⟨gl, 0, none⟩) (by simp [Act.eval]) OE.out (by simp [Act.eval]) rfl (by simp) (fun h => by simp at h) (by omega) hszz ?_; intro g5 cap5 w5 O5 B5 G5)
            | (refine step_app0 (by rfl) (.tmp 101) (.tmp 104) (by rfl) we.heap.size g5 cap5 n0' n0' we.heap.size (P.take n0') (some ⟨gl, 0, none⟩) (by simp [Act.eval]) O5.out (by simp [Act.eval]) HTk2.out (by simp) (HI.out.takel.below B5.out) (by omega) (Nat.le_trans hszz B5.out.size) ?_; intro g6 cap6 w6 O6 B6 G6))
          all_goals (go_wp2_with fail; go_meet)
          all_goals exact ⟨g6, cap6, rfl, by rw [HDN.out, List.nil_append]; exact O6.out, HAL.out.trans (B5.out.trans B6.out)⟩
        · have hsc2 : n0' ≠ x := fun e => hsc e.symm
          go_region_law (first
            | (refine step_app0 (by rfl) (.tmp 97) (.tmp 100) (by rfl) we.heap.size we.heap.size 0 (k - x) (n0' - x) we.heap.size (P.drop x) (some ⟨gl, x, none⟩) (by simp [Act.eval]) OE.out (by simp [Act.eval]) HD.out (by simp) HI.out.dropl (by omega) hszz ?_; intro g5 cap5 w5 O5 B5 G5)
            | (refine step_app (by rfl) (.tmp 101) (.tmp 104) (by rfl) we.heap.size g5 cap5 (k - x) x n0' we.heap.size (P.drop x) (P.take x) (some ⟨gl, 0, none⟩) (by simp [Act.eval]) O5.out (by simp [Act.eval]) HTk2.out (by simp) (HI.out.takel.below B5.out) (by omega) (Nat.le_trans hszz B5.out.size) ?_; intro g6 cap6 w6 O6 B6 G6))
          all_goals (go_wp2_with fail; go_meet)
          all_goals
            have e : k - x + x = k := by omega
            refine ⟨g6, cap6, rfl, ?_, HAL.out.trans (B5.out.trans B6.out)⟩
            have := O6.out
            rwa [e] at this
      case rest =>
      obtain ⟨gr, capr, rfl, o2, b2⟩ := hcut
      rw [← HAR.out] at o2
      have OR := Lib.hid o2
      have ER := Lib.hid (E4.out.below b2)
      obtain ⟨wf, rfl⟩ : ∃ wf : World, wf = wc := ⟨wc, rfl⟩
      clear o2 b2 O4 E4 hgl HNL HAR
      go_wp2_with fail
      go_loopw [17] (fun i wx => ∃ (y : Nat) (lk : List Bool) (q g : Nat), y ≤ k ∧ i = .int .i64 y ∧ wx.ownsRow we.heap.size 3 1 (.slice (some ⟨gr, 0, none⟩) k capr) k (ints (ads b z (rot k x))) ∧ Ev w wx s q g b c lk ∧ Just k ((rot k x).drop y) lk) (fun i _ => k - (intOf i).toNat)
      case atStart => exact ⟨0, _, _, _, by omega, rfl, OR.out, ER.out, by rw [List.drop_zero]; exact just_all k x⟩
      case round =>
        obtain ⟨y, lk, qy, gy, hy, rfl, ho, hev, hj⟩ := hrel
        have HO := Lib.hid ho
        have HE := Lib.hid hev
        have HJ := Lib.hid hj
        clear ho hev hj OR ER
        by_cases hlt : y < k
        · have hyl : y < (rot k x).length := by rw [rot_len]; exact hlt
          have hyl2 : y < (ads b z (rot k x)).length := by rw [ads_len]; exact hyl
          obtain ⟨ab, ao, e, _, q0⟩ := (own_at HO.out).int hyl2
          cases e
          have hdr : (rot k x).drop y = (rot k x)[y] :: (rot k x).drop (y + 1) := List.drop_eq_getElem_cons hyl
          have hmem : (rot k x)[y] < k := rot_mem.1 (List.getElem_mem hyl)
          have hval : (ads b z (rot k x))[y] = b + ((rot k x)[y] : Int) * z := by simp [ads]
          have hj2 := HJ.out
          rw [hdr] at hj2
          have hnd : ((rot k x)[y] :: (rot k x).drop (y + 1)).Nodup := by rw [← hdr]; exact (rot_nodup k x).sublist (List.drop_sublist _ _)
          obtain ⟨e1, e2, e3, e4⟩ := just_give (b := b) (z := z) (by omega) hj2 hmem hnd
          have hi := HR.out _ hmem
          rw [hval, Nat.zero_add] at q0
          obtain ⟨v, hv⟩ : ∃ v, b + ((rot k x)[y] : Int) * z = v := ⟨_, rfl⟩
          rw [hv] at q0 e1 e2 e3 e4 hi
          have HG := Lib.hid (give_any v hi HE.out.sl HE.out.tb)
          rw [HZ.out, e1] at HG
          have HJ2 := Lib.hid e2
          have HE3 := Lib.hid e3
          have HE4 := Lib.hid e4
          have HI := Lib.hid hi
          have j1 : (0 : Int) ≤ (y : Int) := by omega
          have j2 : (y : Int) < (k : Int) := by omega
          have hlt2 : decide ((y : Int) < (k : Int)) = true := by simpa using hlt
          obtain ⟨l2, hl2⟩ : ∃ l2, gvL b z lk v = l2 := ⟨_, rfl⟩
          rw [hl2] at HG HJ2 HE3 HE4
          clear hyl hyl2 hdr hmem hval hj2 hnd e1 e2 e3 e4 hi hv hl2
          go_wp2_with fail
          refine HG.out.mono ?_
          rintro e w6 ⟨rfl, h6⟩
          obtain ⟨q6, g6, E6⟩ := HE.out.step h6
          have E6 := Lib.hid E6
          have O6 := Lib.hid (own_far HO.out h6.fr HE.out.sl.kinds.1 HE.out.sl.kinds.2.2 (by decide) (by decide))
          have hq6 : w6.cell? ⟨gr, y, none⟩ = some (.int .i64 v) := (Bi.cell_of_block (h6.fr.block gr (Bi.own_lt HO.out) (fun e => by
            obtain ⟨cur, hc⟩ := own_cells HO.out (show (Value.slice (some ⟨gr, 0, none⟩) k capr).ownBlock = some gr from rfl)
            exact kne (kind_of hc) HE.out.sl.kinds.1 (by decide) e) (fun e => by
            obtain ⟨cur, hc⟩ := own_cells HO.out (show (Value.slice (some ⟨gr, 0, none⟩) k capr).ownBlock = some gr from rfl)
            exact kne (kind_of hc) HE.out.sl.kinds.2.2 (by decide) e))).trans q0
          have HG2 := Lib.hid (give_any v HI.out E6.out.sl E6.out.tb)
          rw [HZ.out, HE3.out, HE4.out] at HG2
          clear h6 q0 HG
          go_wp2_with fail
          refine HG2.out.mono ?_
          rintro e w7 ⟨rfl, h7⟩
          obtain ⟨q7, g7, E7⟩ := E6.out.step h7
          have E7 := Lib.hid E7
          have O7 := Lib.hid (own_far O6.out h7.fr E6.out.sl.kinds.1 E6.out.sl.kinds.2.2 (by decide) (by decide))
          clear h7 hq6 HG2
          go_wp2_with fail
          go_roundw
          case rel => exact ⟨y + 1, l2, q7, g7, by omega, by go_num, O7.out, E7.out, HJ2.out⟩
          case measure => simp [intOf]; omega
        · obtain rfl : y = k := by omega
          have hj := HJ.out
          rw [List.drop_eq_nil_of_le (by rw [rot_len]; exact Nat.le_refl _)] at hj
          obtain rfl := just_none hj
          have HSt := Lib.hid (state_any HE.out.sl)
          rw [st_none (by omega)] at HSt
          have hlt2 : decide ((y : Int) < (y : Int)) = false := by simp
          clear hj
          go_wp2_with (first
            | (go_at_call 26; refine HSt.out.mono ?_; rintro e w6 ⟨rfl, d6⟩; have E6 := Lib.hid (HE.out.below d6.below); have HK := Lib.hid (key_any E6.out.sl); clear d6)
            | (go_at_call 28; refine HK.out.mono ?_; rintro e w7 ⟨⟨xw, rfl, hxw⟩, b7⟩; obtain rfl := word_none hxw; have E7 := Lib.hid (E6.out.below b7); have hke : ∀ V : World, (binOp .eql 58 (keyW 0#64) (.agg #[.int .u64 0, .int .u64 0, .int .u64 0, .int .u64 0])).run Tryd.prog V = .ok (.bool true) V := (fun V => (keyw_eql V 0#64 0#64)); have hkg : ∀ (V : World) (p q : Operand), (eqGuard .eql 58 p q (keyW 0#64) (.agg #[.int .u64 0, .int .u64 0, .int .u64 0, .int .u64 0])).run Tryd.prog V = .ok () V := (fun V p q => keyw_guard V p q 0#64 0#64); clear hxw b7))
          go_ret
          exact ⟨rfl, E7.out.bel⟩
theorem law_all (b c t : Int) (w : World) (hT : Tb w) : Calls Tryd.prog 5 #[.int .i64 b, .int .i64 c, .int .i64 t] w fun e w' => e = .returned (.bool true) ∧ Below w.heap.size w w' := by
  cases h : (baseB b && classB c) with
  | false => exact no_slab w t b c hT h
  | true =>
    rw [Bool.and_eq_true] at h
    exact all_yes w t b c hT h.1 h.2
end Go.Proofs.YtiemgeflkmbfoaaDoor.Os
