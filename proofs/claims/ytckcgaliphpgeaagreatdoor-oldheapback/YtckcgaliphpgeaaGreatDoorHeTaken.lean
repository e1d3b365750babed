/-
  All taken slots: the contract that the claimed proofs use.
-/
import Derived.Test.YtckcgaliphpgeaaGreatDoorHeHas
namespace Go.Proofs.YtckcgaliphpgeaaGreatDoor.He
set_option maxRecDepth 100000
open Go.RowKit
open Ta (sizeOf' classB)
open Bi (Drawn ret_i ret_b up_alloc up_drew up_trans tst sets)
open Ri (of of_nat up up_at up_far)
open Gr (kind kind_of kne)

/-- The heap's pages, rising. -/
def pagesO (σ : St) : List Nat := (List.range σ.N).filter fun p => (σ.M p).isSome
/-- The addresses of a slab's taken slots. -/
def addrs (p : Nat) (s : Sb) : List Int := (sets s.l).map fun (k : Nat) => 256 * (p : Int) + k * sizeOf' s.c
def tkP (σ : St) (p : Nat) : List Int := match σ.U p with
  | some s => addrs p s
  | none => []
def takenO (σ : St) : List Int := (pagesO σ).flatMap (tkP σ)
theorem pagesO_keys (σ : St) (A : Nat → Ad) : keysOf σ.N (mapOf σ.U σ.O A) = pagesO σ := by
  unfold keysOf pagesO mapOf
  congr 1
  funext p
  exact Option.isSome_map ..
theorem pagesO_mem {σ : St} (hd : ∀ p s, σ.M p = some s → p < σ.N) {p : Nat} : p ∈ pagesO σ ↔ ∃ s, σ.M p = some s := by
  unfold pagesO
  rw [List.mem_filter, List.mem_range, Option.isSome_iff_exists]
  exact ⟨fun h => h.2, fun ⟨s, hs⟩ => ⟨hd p s hs, s, hs⟩⟩
theorem pagesO_sorted (σ : St) : (pagesO σ).Pairwise (· < ·) := (List.pairwise_lt_range (n := σ.N)).sublist List.filter_sublist
theorem pagesO_len (σ : St) : (pagesO σ).length ≤ σ.N := by
  have := List.length_filter_le (fun p => (σ.M p).isSome) (List.range σ.N)
  rw [List.length_range] at this
  exact this
section
variable {w w' : World} {P : Pl} {σ : St} {bs : List (BitVec 8)}
theorem pages_at (h : Hm w P σ bs) : Calls Tryz.prog 18 #[.pointer (some ⟨P.h, 0, none⟩)] w fun e w' => ∃ A c, e = .returned (.slice A (pagesO σ).length c) ∧ Os.At w'.heap.size w' A (Os.ints (nats (pagesO σ))) ∧ Below w.heap.size w w' := by
  refine (pages_own P.h P.b σ.N _ w h.cells.2.1 h.mp h.hN).mono ?_
  rintro e w' ⟨v, rfl, hr, hb⟩
  rw [pagesO_keys] at hr
  obtain ⟨A, c, rfl⟩ := Os.own_form hr
  exact ⟨A, c, rfl, Os.own_at hr, hb⟩
theorem list_at (h : Hm w P σ bs) (c l : Int) : Calls Tryz.prog 11 #[.pointer (some ⟨P.h, 0, none⟩), .int .i64 c, .int .i64 l] w fun e w' => ∃ A cp, e = .returned (.slice A (of σ.R (ringI c l)).length cp) ∧ Os.At w'.heap.size w' A (Os.ints (nats (of σ.R (ringI c l)))) ∧ Below w.heap.size w w' := by
  refine (list_own P.h P.r σ.R c l w h.cells.2.2 h.ring h.tb.cls).mono ?_
  rintro e w' ⟨v, rfl, hr, hb⟩
  obtain ⟨A, cp, rfl⟩ := Os.own_form hr
  exact ⟨A, cp, rfl, Os.own_at hr, hb⟩
theorem taken_new {s q g : Nat} {b c : Int} {l : List Bool} (h : Os.Sl w s q g b c l) (hT : Os.Tb w) : Calls Tryz.prog 16 #[.pointer (some ⟨s, 0, none⟩)] w fun e w' => ∃ gt cp, e = .returned (.slice (some ⟨gt, 0, none⟩) (sets l).length cp) ∧ w.heap.size ≤ gt ∧ Os.At w'.heap.size w' (some ⟨gt, 0, none⟩) (Os.ints (Os.nats (sets l))) ∧ Below w.heap.size w w' := by
  have c2 := h.c2
  obtain ⟨ws, hm⟩ := h.bits
  have HL := Lib.hid (Bi.list_any q g l ws w hm hT.bits)
  generalize sets l = xs at *
  obtain ⟨n, hn⟩ : ∃ n, xs.length = n := ⟨_, rfl⟩
  unfold Bi.Gave at HL
  rw [hn] at HL ⊢
  clear h hm hT hn
  go_enter Tryz.func16, Tryz.ntmps16
  go_wp2_with fail
  refine HL.out.mono ?_
  rintro e w1 ⟨g', cap, rfl, hg, ha, hb⟩
  have HA := Lib.hid (Os.at_of_ia ha)
  have HB := Lib.hid hb
  have HG := Lib.hid hg
  clear ha hb hg HL
  go_wp2_with fail
  go_ret
  exact ⟨g', cap, rfl, HG.out, HA.out, HB.out⟩
set_option maxHeartbeats 8000000 in
theorem takenAll_own (h : Hm w P σ bs) (hi : HI σ) : Calls Tryz.prog 19 #[.pointer (some ⟨P.h, 0, none⟩)] w fun e w' => ∃ v, e = .returned v ∧ w'.ownsRow w.heap.size 3 1 v (takenO σ).length (Os.ints (takenO σ)) ∧ Below w.heap.size w w' := by
  have HPg := Lib.hid (pages_at h)
  have HH := Lib.hid h
  have hdom : ∀ p s, σ.M p = some s → p < σ.N := fun p s hs => by have := (hi.reg hs).1; omega
  have HPs : Hid (∀ p, p ∈ pagesO σ → ∃ s, σ.U p = some s ∧ M σ.U σ.O p = some s ∧ (s.l.length ≤ 64) ∧ p < σ.N) := fun p hp => by
    obtain ⟨s, hs⟩ := (pagesO_mem hdom).1 hp
    exact ⟨s, (M_some hs).2, hs, (h.sl p s (M_some hs).2).len_le.2, hdom p s hs⟩
  have hpl := pagesO_len σ
  have hN := h.hN
  unfold takenO
  generalize pagesO σ = pg at *
  obtain ⟨n, hn⟩ : ∃ n, pg.length = n := ⟨_, rfl⟩
  have HN := Lib.hid hn
  rw [hn] at HPg hpl
  clear h hi hdom hn
  go_enter Tryz.func19, Tryz.ntmps19
  go_wp2_with fail
  refine HPg.out.mono ?_
  rintro e w1 ⟨A1, cp1, rfl, at1, b1⟩
  have AT1 := Lib.hid at1
  have B1 := Lib.hid b1
  clear at1 b1 HPg
  go_wp2_with fail
  go_loopw [3, 14] (fun v i wr => ∃ (k : Nat) (o : List Int), k ≤ n ∧ i = .int .i64 k ∧ wr.ownsRow w1.heap.size 3 1 v o.length (Os.ints o) ∧ Below w1.heap.size w1 wr ∧ o = (pg.take k).flatMap (tkP σ) ∧ o.length ≤ 64 * k) (fun _ i _ => n - (intOf i).toNat)
  case atStart => exact ⟨0, [], by omega, rfl, World.ownsRow_nil _ _ _ _, Below.refl _ _, rfl, by simp⟩
  case round =>
    obtain ⟨k, o, hk, rfl, ho, hbel, hoe, hol⟩ := hrel
    obtain ⟨A0, n0, rfl⟩ := Os.own_form ho
    have HO := Lib.hid ho
    have HB := Lib.hid hbel
    have HOE := Lib.hid hoe
    clear ho hoe
    by_cases hlt : k < n
    · have hkl : k < pg.length := by rw [HN.out]; exact hlt
      have hkl2 : k < (nats pg).length := by simp [nats]; exact hkl
      obtain ⟨bb, oo, rfl, hbb, q0⟩ := (AT1.out.below hbel).int hkl2
      obtain ⟨s, hu, hM, hsl, hpN⟩ := HPs.out pg[k] (List.getElem_mem hkl)
      have HE2 : Hid ((pg.take (k + 1)).flatMap (tkP σ) = (pg.take k).flatMap (tkP σ) ++ tkP σ pg[k]) := by
        show _ = _
        rw [List.take_succ_eq_append_getElem hkl, List.flatMap_append]; simp
      have eg : (nats pg)[k] = ((pg[k] : Nat) : Int) := by simp [nats]
      rw [eg] at q0
      obtain ⟨p, hp⟩ : ∃ p, pg[k] = p := ⟨_, rfl⟩
      rw [hp] at q0 hu hM HE2 hpN
      have HTp : Hid (tkP σ p = addrs p s) := by show _ = _; unfold tkP; rw [hu]
      have HHr := Lib.hid (HH.out.below (B1.out.trans (hbel.mono B1.out.size)))
      have c1 := HHr.out.cells.2.1
      have hx : I64 (p : Int) := by unfold I64; omega
      have hl := HHr.out.mp.look1 hx
      rw [at_map, atI_nat, show σ.M p = some s from hM] at hl
      have hl' : (Instr.lookup 79 (.map (some P.b)) (.int .i64 (p : Int)) false).run Tryz.prog wr = .ok (.pointer (some ⟨(P.A p).s, 0, none⟩)) wr := hl
      have HTk := Lib.hid (taken_new (HHr.out.sl p s hu) HHr.out.tb)
      have HU := Lib.hid hu
      have j1 : (0 : Int) ≤ (k : Int) := by omega
      have j2 : (k : Int) < (n : Int) := by omega
      have hw1s := hbel.size
      have hown : ∀ j, (Value.slice A0 o.length n0).ownBlock = some j → w1.heap.size ≤ j ∧ j < wr.heap.size := fun j hj => ⟨Ri.own_base HO.out j hj, by obtain ⟨cur, hc⟩ := Os.own_cells HO.out hj; exact (Array.getElem?_eq_some_iff.1 hc).1⟩
      have HOw := Lib.hid hown
      obtain ⟨N2, hN2⟩ : ∃ N2, (sets s.l).length = N2 := ⟨_, rfl⟩
      have HN2 := Lib.hid hN2
      have hn2 : N2 ≤ 64 := by rw [← hN2]; exact Nat.le_trans (Bi.sets_length_le s.l) hsl
      rw [hN2] at HTk
      clear hbel hl hx eg hp hkl hkl2 hu hM hown hN2 hsl
      go_wp2_with fail
      refine HTk.out.mono ?_
      rintro e w2 ⟨gt, cp2, rfl, hgt, at2, b2⟩
      have AT2 := Lib.hid at2
      have H2 := Lib.hid (HHr.out.below b2)
      have HO2 := Lib.hid (Os.own_below HO.out b2)
      have B2 := Lib.hid (HB.out.trans (b2.mono hw1s))
      have hs2 := b2.size
      have HGt : Hid ((Value.slice A0 o.length n0).ownBlock ≠ some gt) := fun e => by have := (HOw.out gt e).2; omega
      have hgt2 : w1.heap.size ≤ gt := by omega
      obtain ⟨wo, hwo⟩ : ∃ wo : World, wo = wr := ⟨wr, rfl⟩
      subst hwo
      clear at2 b2 HTk hl' q0 c1 HHr HO hgt
      go_wp2_with fail
      go_loopw [3, 27] (fun v i wr => ∃ (j : Nat) (o' : List Int), j ≤ N2 ∧ i = .int .i64 j ∧ wr.ownsRow w1.heap.size 3 1 v o'.length (Os.ints o') ∧ Below w1.heap.size w1 wr ∧ o' = o ++ ((sets s.l).take j).map (fun (k : Nat) => 256 * (p : Int) + k * sizeOf' s.c) ∧ o'.length = o.length + j ∧ wr.heap[gt]? = w2.heap[gt]? ∧ v.ownBlock ≠ some gt ∧ w2.heap.size ≤ wr.heap.size ∧ Hm wr P σ bs) (fun _ i _ => N2 - (intOf i).toNat)
      case atStart => exact ⟨0, o, by omega, rfl, HO2.out, B2.out, by simp, by simp, rfl, HGt.out, Nat.le_refl _, H2.out⟩
      case round =>
        obtain ⟨j, o', hj, rfl, ho', hbel', hoe', hol', hsame, hne, hs3, hhm⟩ := hrel
        obtain ⟨A3, n3, rfl⟩ := Os.own_form ho'
        have HO3 := Lib.hid ho'
        have HB3 := Lib.hid hbel'
        have HOE3 := Lib.hid hoe'
        have HSm := Lib.hid hsame
        have HNe := Lib.hid hne
        have HHm := Lib.hid hhm
        have HOL := Lib.hid hol'
        have hol3 : o'.length ≤ 64 * k + j := by omega
        clear ho' hoe' hsame hne hhm hol'
        by_cases hlt2 : j < N2
        · have hjl : j < (sets s.l).length := by rw [HN2.out]; exact hlt2
          have hjl2 : j < (Os.nats (sets s.l)).length := by simp [Os.nats]; exact hjl
          obtain ⟨bb2, oo2, e2, hbb2, q1⟩ := AT2.out.int hjl2
          cases e2
          have q2 : wr.cell? ⟨gt, 0 + j, none⟩ = some (.int .i64 (Os.nats (sets s.l))[j]) := (cell_same HSm.out).trans q1
          rw [Nat.zero_add] at q2
          have eg2 : (Os.nats (sets s.l))[j] = (((sets s.l)[j] : Nat) : Int) := by simp [Os.nats]
          rw [eg2] at q2
          have HE3 : Hid (((sets s.l).take (j + 1)).map (fun (k : Nat) => 256 * (p : Int) + k * sizeOf' s.c) = ((sets s.l).take j).map (fun (k : Nat) => 256 * (p : Int) + k * sizeOf' s.c) ++ [256 * (p : Int) + ((sets s.l)[j] : Nat) * sizeOf' s.c]) := by
            show _ = _
            rw [List.take_succ_eq_append_getElem hjl, List.map_append]; rfl
          obtain ⟨y, hy⟩ : ∃ y, (sets s.l)[j] = y := ⟨_, rfl⟩
          rw [hy] at q2 HE3
          have hhas : Bi.hasB s.l.length (y : Int) = true := by
            have : y ∈ sets s.l := hy ▸ List.getElem_mem hjl
            unfold sets at this
            have := (Bi.mem_on.1 this).1
            unfold Bi.hasB; rw [decide_eq_true_eq]; omega
          have HAd := Lib.hid (Os.address_any (y : Int) (HHm.out.sl p s HU.out) HHm.out.tb)
          unfold Os.adV at HAd
          rw [hhas, if_pos rfl] at HAd
          obtain ⟨z, hz⟩ : ∃ z, 256 * (p : Int) + (y : Int) * sizeOf' s.c = z := ⟨_, rfl⟩
          rw [hz] at HAd HE3
          have i1 : (0 : Int) ≤ (j : Int) := by omega
          have i2 : (j : Int) < (N2 : Int) := by omega
          have hol2 : o'.length ≤ 1048576 := by omega
          have hws := hbel'.size
          clear q1 hjl2 eg2 hy hhas hz hbel' hjl
          go_wp2_with fail
          refine HAd.out.mono ?_
          rintro e w4 ⟨rfl, d4⟩
          have HD4 := Lib.hid d4.below
          have HO4 := Lib.hid (Os.own_below HO3.out d4.below)
          have hs4 := d4.below.size
          clear d4 HAd HO3 q2
          go_wp2_with (at_builtin; refine Os.app_law (base := w1.heap.size) Os.el3 rfl _ _ rfl rfl (Os.own_below HO4.out (up_alloc (Below.refl _ _) _)) rfl (show (w4.alloc (.cells #[.int .i64 z] 3)).heap[w4.heap.size]? = some (.cells [Value.int .i64 z].toArray 3 (0, 0)) from heap_alloc_last w4 _) rfl (by simp [Value.oneCell']) hol2 (by rw [World.size_alloc]; omega) ?_; intro g' cap' wa hoa hga hgw)
          have bA : Below w1.heap.size w1 (w4.alloc (.cells #[.int .i64 z] 3)) := up_alloc (HB3.out.trans (HD4.out.mono hws)) _
          have bF : Below w1.heap.size w1 wa := bA.grown hga.out bA.size (fun k hk => Ri.own_base HO4.out k hk)
          have sA : wr.heap.size + 1 ≤ (w4.alloc (.cells #[.int .i64 z] 3)).heap.size := by rw [World.size_alloc]; omega
          have sF := hga.out.size
          have gF : wa.heap[gt]? = w2.heap[gt]? := by
            have hgl : gt < w4.heap.size := by omega
            rw [hga.out.block gt (by rw [World.size_alloc]; omega) (fun e => HNe.out e.symm), Below.heap_alloc _ _ gt hgl, HD4.out.block gt (by omega)]
            exact HSm.out
          have nF : (Value.slice (some ⟨g', 0, none⟩) (o'.length + 1) cap').ownBlock ≠ some gt := fun e => by
            have e : g' = gt := Option.some.inj e
            rcases hgw.out with h1 | h1
            · exact HNe.out (by rw [← e]; exact h1)
            · rw [World.size_alloc] at h1; omega
          have hF : Hm wa P σ bs := HH.out.below (B1.out.trans (bF.mono B1.out.size))
          have oF : wa.ownsRow w1.heap.size 3 1 (.slice (some ⟨g', 0, none⟩) (o'.length + 1) cap') (o' ++ [z]).length (Os.ints (o' ++ [z])) := by
            rw [Os.ints_snoc, List.length_append]; exact hoa.out
          have FIN := Lib.hid (And.intro bF (And.intro gF (And.intro nF (And.intro hF oF))))
          clear bA bF gF nF hF oF hoa hga hgw
          go_roundw
          case rel => exact ⟨j + 1, o' ++ [z], by omega, by go_num, FIN.out.2.2.2.2, FIN.out.1, by rw [HE3.out, ← List.append_assoc, ← HOE3.out], by rw [List.length_append, HOL.out]; simp; omega, FIN.out.2.1, FIN.out.2.2.1, by omega, FIN.out.2.2.2.1⟩
          case measure => simp [intOf]; omega
        · obtain rfl : j = N2 := by omega
          clear hbel'
          go_wp2_with fail
          go_roundw
          case rel =>
            refine ⟨k + 1, o', by omega, by go_num, HO3.out, HB3.out, ?_, by omega⟩
            rw [HE2.out, HTp.out, ← HOE.out, HOE3.out]
            unfold addrs
            rw [List.take_of_length_le (by rw [HN2.out]; omega)]
          case measure => simp [intOf]; omega
    · obtain rfl : k = n := by omega
      clear hbel
      go_wp2_with fail
      go_ret
      have e1 : o = pg.flatMap (tkP σ) := by rw [HOE.out, List.take_of_length_le (by rw [HN.out]; omega)]
      rw [← e1]
      exact ⟨_, rfl, Os.own_down HO.out B1.out.size, B1.out.trans (HB.out.mono B1.out.size)⟩
theorem takenAll_any (h : Hm w P σ bs) (hi : HI σ) : Calls Tryz.prog 19 #[.pointer (some ⟨P.h, 0, none⟩)] w fun e w' => ∃ A c, e = .returned (.slice A (takenO σ).length c) ∧ Os.At w'.heap.size w' A (Os.ints (takenO σ)) ∧ Below w.heap.size w w' := by
  refine (takenAll_own h hi).mono ?_
  rintro e w' ⟨v, rfl, hr, hb⟩
  obtain ⟨A, c, rfl⟩ := Os.own_form hr
  exact ⟨A, c, rfl, Os.own_at hr, hb⟩
end
end Go.Proofs.YtckcgaliphpgeaaGreatDoor.He
