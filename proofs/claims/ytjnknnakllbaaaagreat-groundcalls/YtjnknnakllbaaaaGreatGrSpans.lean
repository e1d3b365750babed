/-
  A version's spans: a contract that the claimed proofs use.
-/
import Derived.Test.YtjnknnakllbaaaaGreatGrAt
import Derived.Test.YtjnknnakllbaaaaGreatGrLists
namespace Go.Proofs.YtjnknnakllbaaaaGreat.Gr
set_option maxRecDepth 100000
open Go.RowKit Go.Maps
/-- The first pages of a version's spans. -/
def spL (L : List Sp.Rn) (f : Ra.Ws) (v : Int) : List Int := (L.filter fun r => ver v (f r.p.toNat)).map (·.p)
theorem spL_snoc (L : List Sp.Rn) (f : Ra.Ws) (v : Int) {k : Nat} (hk : k < L.length) : spL (L.take (k + 1)) f v = if ver v (f (Sp.el L k).p.toNat) = true then spL (L.take k) f v ++ [(Sp.el L k).p] else spL (L.take k) f v := by
  have e : L.take (k + 1) = L.take k ++ [Sp.el L k] := by
    rw [List.take_succ_eq_append_getElem hk]
    have := Sp.el_get hk
    rw [List.getElem?_eq_getElem hk] at this
    rw [← Option.some.inj this]
  unfold spL
  rw [e, List.filter_append, List.map_append]
  cases h : ver v (f (Sp.el L k).p.toNat) <;> simp [h]
theorem spL_len (L : List Sp.Rn) (f : Ra.Ws) (v : Int) : (spL L f v).length ≤ L.length := by
  unfold spL; rw [List.length_map]; exact List.length_filter_le _ _
section
variable {w w' : World} {q : Nat} {p : Pl} {N t : Int} {L : List Sp.Rn} {f : Ra.Ws} {S : List Le.Row} {bs : List (BitVec 8)}
set_option maxHeartbeats 4000000 in
theorem spans_any (v : Int) (h : Gm w q p N L f t S bs) : Calls Tryz.prog 22 #[.pointer (some ⟨q, 0, none⟩), .int .i64 v] w fun e w' =>
    ∃ A c, e = .returned (.slice A (spL L f v).length c) ∧ At w'.heap.size w' A (ints (spL L f v)) ∧ Below w.heap.size w w' := by
  obtain ⟨c0, c1, c2, c3⟩ := h.gx.cells
  have hlen := h.inv.wf.len
  have hn1 := h.inv.n1
  have HR := Lib.hid (Sp.runs_any h.gx.sp (by omega))
  have HH := Lib.hid h
  obtain ⟨M, hM⟩ : ∃ M, L.length = M := ⟨_, rfl⟩
  have HM := Lib.hid hM
  have hMl : M ≤ 4096 := by omega
  unfold Sp.GaveR at HR
  rw [hM] at HR
  clear h hM hlen
  go_enter Tryz.func22, Tryz.ntmps22
  go_wp2_with fail
  refine HR.out.mono ?_
  rintro e w1 ⟨g1, cap1, rfl, rw1, hg1, b1⟩
  have HB1 := Lib.hid b1
  have H1 := Lib.hid (HH.out.below b1)
  have HRw := Lib.hid rw1
  have h0s : Below w1.heap.size w1 w1 := Below.refl _ _
  clear rw1 b1 HR c0 c1 c2 c3
  go_wp2_with fail
  go_loopw [5, 16] (fun l i wr => ∃ (k : Nat), k ≤ M ∧ i = .int .i64 k ∧ wr.ownsRow w1.heap.size 3 1 l (spL (L.take k) f v).length (ints (spL (L.take k) f v)) ∧ Below w1.heap.size w1 wr) (fun _ i _ => M - (intOf i).toNat)
  case atStart => exact ⟨0, by omega, rfl, by rw [List.take_zero]; exact World.ownsRow_nil _ _ _ _, h0s⟩
  case round =>
    obtain ⟨k, hk, rfl, ho, hb⟩ := hrel
    obtain ⟨A0, n0, rfl⟩ := own_form ho
    have HO := Lib.hid ho
    have HB := Lib.hid hb
    clear ho hb h0s
    by_cases hlt : k < M
    · have hkl : k < L.length := by rw [HM.out]; exact hlt
      have hst := spL_snoc L f v hkl
      have hll := spL_len (L.take k) f v
      have htl : (L.take k).length ≤ k := by rw [List.length_take]; omega
      obtain ⟨r0, r1, r2⟩ := (HRw.out.below HB.out).cells hkl
      have hat := H1.out.inv.at hkl
      have HG1 := Lib.hid (H1.out.below HB.out)
      have hg1l := (HRw.out.below HB.out).lt
      have hX : Ra.wAt N f (Sp.el L k).p = f (Sp.el L k).p.toNat := by
        unfold Ra.wAt; rw [if_pos (Ra.inB_iff.2 (by omega))]
      obtain ⟨X, hXX⟩ : ∃ X, f (Sp.el L k).p.toNat = X := ⟨_, rfl⟩
      rw [hXX] at hst hX
      obtain ⟨x, hx⟩ : ∃ x, Sp.el L k = x := ⟨_, rfl⟩
      rw [hx] at hst hX r0 r1 r2 hat
      obtain ⟨xp, xn, xt⟩ := x
      dsimp only at hst hX r0 r1 r2 hat
      have HST := Lib.hid hst
      have k1 : (0 : Int) ≤ (k : Int) := by omega
      have k2 : (k : Int) < (M : Int) := by omega
      obtain ⟨wz, hwz⟩ : ∃ wz, wr.alloc (.cells #[.int .i64 xp, .int .i64 xn, .bool xt] 107) = wz := ⟨_, rfl⟩
      have bz : Below wr.heap.size wr wz := by rw [← hwz]; exact up_alloc (Below.refl _ _) _
      have Kz : Blk wz wr.heap.size [.int .i64 xp, .int .i64 xn, .bool xt] 107 := by rw [← hwz]; exact Blk.new wr _ 107
      have HBz := Lib.hid (up_trans HB.out bz)
      have HGz := Lib.hid (HG1.out.below bz)
      have HOz := Lib.hid (own_below HO.out bz)
      obtain ⟨zb, hzb⟩ : ∃ zb, wr.heap.size = zb := ⟨_, rfl⟩
      rw [hzb] at Kz
      have HKz := Lib.hid Kz
      have HGet := Lib.hid (fun (V : World) (hV : Below wz.heap.size wz V) => (by have := Ra.get_any xp (HGz.out.below hV).gx.mp.lay (HGz.out.below hV).gx.mp.st (by unfold Ra.I64; omega); rwa [hX] at this : Calls Tryz.prog 52 #[.pointer (some ⟨p.qm, 0, none⟩), .int .i64 xp] V fun e w' => e = .returned (.tuple #[Ra.entV X, .bool (X != 0)]) ∧ Below V.heap.size V w'))
      unfold Ra.entV at HGet
      have SB := Lib.hid (fun (V : World) (hV : Below wz.heap.size wz V) => (show V.cell? ⟨q, 1, none⟩ = some (.pointer (some ⟨p.qm, 0, none⟩)) ∧ V.cell? ⟨zb, 0, none⟩ = some (.int .i64 xp) from ⟨(HGz.out.below hV).gx.cells.2.1, Sp.Blk.cell (Blk.below HKz.out hV)⟩))
      have S1 := SB.out _ (Below.refl _ wz).drew
      clear hst hX bz Kz hat hx hXX HG1 hkl
      go_wp2_with fail
      clear hwz hzb r0 r1 r2
      go_upto_region 5 with fail
      go_cut [8, 9] (fun a b wx => ∃ b8, a = .pointer (some ⟨b8, 0, none⟩) ∧ b = .bool (X != 0) ∧ Ra.Blk wx b8 [.int .i64 (Ra.spanOf X), .int .i64 (Ra.verOf X), .int .i64 (Ra.clsOf X), .int .i64 (Ra.staOf X)] 52 ∧ Below wz.heap.size wz wx)
      case first =>
        go_region_held3 (fun V => V.cell? ⟨q, 1, none⟩ = some (.pointer (some ⟨p.qm, 0, none⟩)) ∧ V.cell? ⟨zb, 0, none⟩ = some (.int .i64 xp))
          (first | exact S2 | exact S1 | exact SB.out _ (up_alloc B5.out _) | exact SB.out _ (up_alloc (Below.refl _ wz) _).drew | exact SB.out _ (Ra.four_below B5.out (Nat.le_refl _) _ _ _ _))
          ((go_at_call 52; first
            | (refine (HGet.out _ (Below.refl _ wz).drew).mono ?_; rintro e w5 ⟨rfl, b5⟩; have B5 : Hid (Below wz.heap.size wz w5) := up_trans (Below.refl _ wz).drew b5; have S2 := SB.out _ B5.out; clear b5)
            | (refine (HGet.out _ (up_alloc (Below.refl _ wz) _).drew).mono ?_; rintro e w5 ⟨rfl, b5⟩; have B5 : Hid (Below wz.heap.size wz w5) := up_trans (up_alloc (Below.refl _ wz) _).drew b5; have S2 := SB.out _ B5.out; have K5 : Ra.Blk w5 wz.heap.size [.int .i64 0, .int .i64 0, .int .i64 0, .int .i64 0] 52 := Ra.Blk.of (w := (wz.alloc (.cells #[.int .i64 0, .int .i64 0, .int .i64 0, .int .i64 0] 52)).drew) (heap_alloc_last wz _) (b5.block _ (Ra.Blk.lt (w := (wz.alloc (.cells #[.int .i64 0, .int .i64 0, .int .i64 0, .int .i64 0] 52)).drew) (vs := [.int .i64 0, .int .i64 0, .int .i64 0, .int .i64 0]) (t := 52) (heap_alloc_last wz _))); have HK5 := Lib.hid K5; have z0 : w5.cell? ⟨wz.heap.size, 0, none⟩ = some (.int .i64 0) := K5.cell; have z1 : w5.cell? ⟨wz.heap.size, 1, none⟩ = some (.int .i64 0) := K5.cell; have z2 : w5.cell? ⟨wz.heap.size, 2, none⟩ = some (.int .i64 0) := K5.cell; have z3 : w5.cell? ⟨wz.heap.size, 3, none⟩ = some (.int .i64 0) := K5.cell; have y0 := K5.frozen 0; have y1 := K5.frozen 1; have y2 := K5.frozen 2; have y3 := K5.frozen 3; clear b5 K5)))

        all_goals (go_wp2_with fail; go_meet)
        · exact ⟨w5.heap.size, rfl, rfl, heap_alloc_last w5 _, up_alloc B5.out _⟩
        · exact ⟨wz.heap.size, rfl, rfl, Ra.four_set HK5.out _ _ _ _, Ra.four_below B5.out (Nat.le_refl _) _ _ _ _⟩
      case rest =>
      obtain ⟨b8, rfl, rfl, K8, B8⟩ := hcut
      have HB8 := Lib.hid B8
      have e1 : wc.cell? ⟨b8, 1, none⟩ = some (.int .i64 (Ra.verOf X)) := K8.cell
      have e2 : wc.cell? ⟨zb, 0, none⟩ = some (.int .i64 xp) := (SB.out _ B8).2
      have HO8 := Lib.hid (own_below HOz.out B8)
      have hsz8 := (up_trans HBz.out B8).size
      clear K8 B8 S1 SB HGet
      cases hX0 : (X != 0) with
      | false =>
        have e3 : ver v X = false := by unfold ver; rw [hX0]; rfl
        have e4 : spL (L.take (k + 1)) f v = spL (L.take k) f v := by rw [HST.out, e3]; rfl
        have HE := Lib.hid e4
        clear e3 e4 hX0
        go_wp2_with fail
        go_roundw
        case rel => exact ⟨k + 1, by omega, by go_num, by rw [HE.out]; exact HO8.out, up_trans HBz.out HB8.out⟩
        case measure => simp [intOf]; omega
      | true =>
        cases hv : (Ra.verOf X == v) with
        | false =>
          have e3 : ver v X = false := by unfold ver; rw [hX0, hv]; rfl
          have e4 : spL (L.take (k + 1)) f v = spL (L.take k) f v := by rw [HST.out, e3]; rfl
          have HE := Lib.hid e4
          clear e3 e4 hX0
          go_wp2_with fail
          go_roundw
          case rel => exact ⟨k + 1, by omega, by go_num, by rw [HE.out]; exact HO8.out, up_trans HBz.out HB8.out⟩
          case measure => simp [intOf]; omega
        | true =>
          have e3 : ver v X = true := by unfold ver; rw [hX0, hv]; rfl
          have e4 : spL (L.take (k + 1)) f v = spL (L.take k) f v ++ [xp] := by rw [HST.out, e3]; rfl
          have HE := Lib.hid e4
          have HLE : Hid ((spL (L.take (k + 1)) f v).length = (spL (L.take k) f v).length + 1) := by show _ = _; rw [e4]; simp
          clear e3 e4 hX0
          have hkk : (spL (L.take k) f v).length ≤ 1048576 := by omega
          generalize spL (L.take k) f v = ls at *
          go_wp2_with (at_builtin; refine app_law el3 rfl _ _ rfl rfl (own_below HO8.out (up_alloc (Below.refl _ _) _)) rfl (Blk.new wc [.int .i64 xp] 3) rfl (by simp [Value.oneCell']) hkk (by rw [World.size_alloc]; omega) ?_; intro g' cap' wa hoa hga hgw)
          go_roundw
          case rel => exact ⟨k + 1, by omega, by go_num, by rw [HLE.out, HE.out, ints_snoc]; exact hoa.out, (up_alloc (up_trans HBz.out HB8.out) _).grown hga.out (by rw [World.size_alloc]; omega) (fun g hg => (HO8.out.lt g hg).1)⟩
          case measure => simp [intOf]; omega
    · obtain rfl : k = M := by omega
      rw [List.take_of_length_le (by rw [HM.out]; omega)] at HO ⊢
      have HA := Lib.hid (own_at HO.out)
      have HBe := Lib.hid (up_trans HB1.out HB.out)
      clear HO
      go_wp2_with fail
      go_ret
      exact ⟨A0, n0, rfl, HA.out, HBe.out⟩
end
end Go.Proofs.YtjnknnakllbaaaaGreat.Gr
