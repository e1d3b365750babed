/-
  What the document's Runs does: a contract that the claimed proofs use.
-/
import Derived.Test.YtjnknnakllbaaaaGreatSpRef
namespace Go.Proofs.YtjnknnakllbaaaaGreat.Sp
set_option maxRecDepth 100000
open Go.RowKit

theorem town_empty (w : World) : Rt (w.alloc (.cells #[] 144)) w.heap.size 0 [] := ⟨[], heap_alloc_new w _, rfl, Nat.le_refl _, by decide, rfl⟩
/-- What is left behind a call that answers the document's runs. -/
def GaveT (L : List Rn) (w : World) (e : Ending) (w' : World) : Prop := ∃ g cap, e = .returned (.slice (some ⟨g, 0, none⟩) L.length cap) ∧ Rt w' g cap L ∧ w.heap.size ≤ g ∧ Below w.heap.size w w'
theorem Cut.len {N i : Int} {L out : List Rn} (hw : WF N L) (h : Cut L i out) (_hi : 0 ≤ i) : (out.length : Int) ≤ N := by
  have hl := hw.len
  rcases h with ⟨h1, h2⟩ | ⟨k, hk, h1, h2, h3⟩
  · subst h2; simp; omega
  · subst h3; simp; omega
set_option maxHeartbeats 4000000 in
theorem rruns_any {w : World} {q g N : Nat} {L : List Rn} (h : Rs w q g N L) (hw : WF (N : Int) L) (hN : N ≤ 4096) : Calls Tryz.prog 93 #[.pointer (some ⟨q, 0, none⟩)] w (GaveT L w) := by
  obtain ⟨i0, hi0, hz0, hz1, hz2⟩ := info_parts ref_info
  have HS := Lib.hid h
  have HW := Lib.hid hw
  clear h hw
  have HE := Lib.hid (town_empty w)
  go_enter Tryz.func93, Tryz.ntmps93
  go_wp2
  go_loopw [3, 4] (fun o i wr => ∃ (I go cap n : Nat) (out : List Rn), I ≤ N ∧ i = .int .i64 I ∧ o = .slice (some ⟨go, 0, none⟩) n cap ∧ out.length = n ∧ Cut L (I : Int) out ∧ Rt wr go cap out ∧ w.heap.size ≤ go ∧ Below w.heap.size w wr) (fun _ i _ => N - (intOf i).toNat)
  case atStart => exact ⟨0, w.heap.size, 0, 0, [], by omega, rfl, rfl, rfl, .inl ⟨rfl, rfl⟩, HE.out, Nat.le_refl _, up_alloc (Below.refl _ w) _⟩
  case round =>
    obtain ⟨I, go, cap, n, out, hI, rfl, rfl, hn, hcut, hrt, hgo, hbe⟩ := hrel
    have HN := Lib.hid hn
    have HC := Lib.hid hcut
    have HR := Lib.hid hrt
    have HB := Lib.hid hbe
    have hsz := hbe.size
    have hn4 : n ≤ 4096 := by have := hcut.len HW.out (by omega); omega
    have hS := HS.out.below hbe
    have c0 := hS.slice
    have hgl := hrt.lt
    clear hn hcut hrt hbe HE
    by_cases hlt : I < N
    · have p1 := hS.2.1.cell hlt
      have b2 : (I : Int) < (N : Int) := by omega
      rcases Cut.step HW.out (by omega) (by omega) HC.out with ⟨s1, s2, Ao, r, s3, s4, s5, s6⟩ | ⟨s1, s2⟩
      · obtain ⟨J, rfl⟩ : ∃ J, I = J + 1 := ⟨I - 1, by omega⟩
        have p0 := hS.2.1.cell (i := J) (by omega)
        have e1 : ((J + 1 : Nat) : Int) - 1 = (J : Int) := by omega
        rw [e1] at s2
        rw [s2] at p1
        obtain ⟨y, hy⟩ : ∃ y, pf L (J : Int) = y := ⟨_, rfl⟩
        rw [hy] at p0 p1
        obtain ⟨a, ha⟩ : ∃ a, Ao.length = a := ⟨_, rfl⟩
        have hna : n = a + 1 := by rw [← HN.out, s3, List.length_append, ha]; rfl
        subst hna
        have hel : el out a = r := by rw [s3, ← ha]; exact el_mid _ _ _
        obtain ⟨t0, t1, t2⟩ := HR.out.cells (i := a) (by rw [HN.out]; omega)
        rw [hel] at t0 t1 t2
        have f1 := HR.out.frozen (a * 3 + 1)
        have hset : out.set a ⟨r.p, r.n + 1, r.t⟩ = Ao ++ [⟨r.p, r.n + 1, r.t⟩] := by rw [s3, ← ha, List.set_append_right _ _ (by omega)]; simp
        have R2 : Rt (wr.setCell ⟨go, a * 3 + 1, none⟩ (.int .i64 (r.n + 1))) go cap (Ao ++ [⟨r.p, r.n + 1, r.t⟩]) := by
          have := HR.out.set (i := a) (by rw [HN.out]; omega) (k := 1) (by omega) ⟨r.p, r.n + 1, r.t⟩ (.int .i64 (r.n + 1)) (by rw [hel]; rfl)
          rwa [hset] at this
        have HR2 := Lib.hid R2
        have HC2 := Lib.hid s6
        have HAL := Lib.hid ha
        have hd0 : decide ((0 : Int) < (J : Int) + 1) = true := by simp <;> omega
        have hyy : (y == y) = true := by simp
        have hrn : r.n ≤ 4096 := by omega
        have hw1 := i64_in ((J : Int) + 1 - 1) (by omega) (by omega)
        have hq1 : (J : Int) + 1 - 1 = (J : Int) := by omega
        generalize r.n = rn at t1 R2 HR2 HC2 s4 s5 hrn
        clear s1 s2 s3 s6 hel hset R2 hy ha hS HC HR
        go_wp2_with fail
        go_quiet (fail)
        go_wp2
        refine ⟨⟨J + 1 + 1, go, cap, a + 1, _, by omega, by go_num, rfl, ?_, HC2.out, HR2.out.below (up_drew (Below.refl _ _) nq), hgo, up_drew (grown_new HB.out (grown_set _ _ _ _) hgo) nq⟩, by simp [intOf]; omega⟩
        rw [List.length_append, HAL.out]; rfl
      · obtain ⟨y1, hy1⟩ : ∃ y1, pf L (I : Int) = y1 := ⟨_, rfl⟩
        rw [hy1] at p1 s1 s2
        have HCUT := Lib.hid s2
        clear s2
        by_cases hI0 : I = 0
        · subst hI0
          clear s1
          go_wp2_with fail
          go_quiet (fail)
          have D2 : Below wr.heap.size wr (wr.drewN nq) := up_drew (Below.refl _ wr) nq
          have hS2 := hS.below D2
          have c2 := hS2.slice
          have p2 := hS2.2.1.cell hlt
          rw [hy1] at p2
          have R2 := Lib.hid (HR.out.below D2)
          have B2 := Lib.hid (up_trans HB.out D2)
          generalize wr.drewN nq = w2 at c2 p2 R2 B2
          clear D2 hS2 c0 p1
          have HO := Lib.hid ((R2.out.owns hgo).alloc (.cells #[.int .i64 ((0 : Nat) : Int), .int .i64 1, .bool (decide (0 < y1))] 144))
          have hbl : Blk (w2.alloc (.cells #[.int .i64 ((0 : Nat) : Int), .int .i64 1, .bool (decide (0 < y1))] 144)) w2.heap.size [.int .i64 ((0 : Nat) : Int), .int .i64 1, .bool (decide (0 < y1))] 144 := heap_alloc_new w2 _
          have HNEW : Hid (∀ j v, (rc ⟨((0 : Nat) : Int), 1, decide (0 < y1)⟩)[j]? = some v → (w2.alloc (.cells #[.int .i64 ((0 : Nat) : Int), .int .i64 1, .bool (decide (0 < y1))] 144)).cell? ((⟨w2.heap.size, 0, none⟩ : Addr).add j) = some v) := fun j v hv => by
            have e : (⟨w2.heap.size, 0, none⟩ : Addr).add j = ⟨w2.heap.size, j, none⟩ := by unfold Addr.add; split <;> simp_all
            rw [e, hbl.cell]; exact hv
          have HONE : Hid (∀ v ∈ rc ⟨((0 : Nat) : Int), 1, decide (0 < y1)⟩, v.oneCell' = true) := fun v hv => by
            simp only [rc, List.mem_cons, List.not_mem_nil, or_false] at hv
            rcases hv with rfl | rfl | rfl <;> rfl
          have hs2 := B2.out.size
          rw [HN.out] at HO
          clear hbl
          go_wp2_with (at_builtin; refine wpList_append_lies _ rfl _ _ 142 rfl w.heap.size 144 i0 _ 3 24 Tryz.underlying142 hi0 hz0 hz1 hz2 rfl (by omega) _ n (rcs out) rfl HO.out ⟨w2.heap.size, 0, none⟩ 1 1 (rc ⟨((0 : Nat) : Int), 1, decide (0 < y1)⟩) rfl rfl HNEW.out HONE.out (by omega) (by simp only [maxLen]; omega) (by omega) (by simp; omega) _ rfl ?_; intro g' cap' w' h2 h3 h4 h5)
          have hln : (out ++ [(⟨((0 : Nat) : Int), 1, decide (0 < y1)⟩ : Rn)]).length = n + 1 := by rw [List.length_append, HN.out]; rfl
          obtain ⟨rt, hbase⟩ := Rt.owned (L := out ++ [⟨((0 : Nat) : Int), 1, decide (0 < y1)⟩]) (by rw [rcs_app]; exact h2) hln
          have h3' : (w2.alloc (.cells #[.int .i64 ((0 : Nat) : Int), .int .i64 1, .bool (decide (0 < y1))] 144)).grownBy w' (some go) := h3
          have RT := Lib.hid rt
          have BT := Lib.hid (grown_new (up_alloc B2.out _) h3' hgo)
          have HLN := Lib.hid hln
          clear rt h2 h3 h4 h5 h3' hln
          go_roundw
          case rel => exact ⟨0 + 1, g', cap', n + 1, _, by omega, by go_num, rfl, HLN.out, HCUT.out, RT.out, hbase, BT.out⟩
          case measure => simp [intOf]; omega
        · have s1 : y1 ≠ pf L ((I : Int) - 1) := by
            rcases s1 with h | h
            · omega
            · exact h
          obtain ⟨J, rfl⟩ : ∃ J, I = J + 1 := ⟨I - 1, by omega⟩
          have p0 := hS.2.1.cell (i := J) (by omega)
          have e1 : ((J + 1 : Nat) : Int) - 1 = (J : Int) := by omega
          rw [e1] at s1
          obtain ⟨y, hy⟩ : ∃ y, pf L (J : Int) = y := ⟨_, rfl⟩
          rw [hy] at p0 s1
          have hd0 : decide ((0 : Int) < (J : Int) + 1) = true := by simp <;> omega
          have hyy : (y1 == y) = false := by simpa using s1
          have hw1 := i64_in ((J : Int) + 1 - 1) (by omega) (by omega)
          have hq1 : (J : Int) + 1 - 1 = (J : Int) := by omega
          clear s1 hy
          go_wp2_with fail
          go_quiet (fail)
          have D2 : Below wr.heap.size wr (wr.drewN nq) := up_drew (Below.refl _ wr) nq
          have hS2 := hS.below D2
          have c2 := hS2.slice
          have p2 := hS2.2.1.cell hlt
          rw [hy1] at p2
          have R2 := Lib.hid (HR.out.below D2)
          have B2 := Lib.hid (up_trans HB.out D2)
          generalize wr.drewN nq = w2 at c2 p2 R2 B2
          clear D2 hS2 c0 p1
          have HO := Lib.hid ((R2.out.owns hgo).alloc (.cells #[.int .i64 ((J + 1 : Nat) : Int), .int .i64 1, .bool (decide (0 < y1))] 144))
          have hbl : Blk (w2.alloc (.cells #[.int .i64 ((J + 1 : Nat) : Int), .int .i64 1, .bool (decide (0 < y1))] 144)) w2.heap.size [.int .i64 ((J + 1 : Nat) : Int), .int .i64 1, .bool (decide (0 < y1))] 144 := heap_alloc_new w2 _
          have HNEW : Hid (∀ j v, (rc ⟨((J + 1 : Nat) : Int), 1, decide (0 < y1)⟩)[j]? = some v → (w2.alloc (.cells #[.int .i64 ((J + 1 : Nat) : Int), .int .i64 1, .bool (decide (0 < y1))] 144)).cell? ((⟨w2.heap.size, 0, none⟩ : Addr).add j) = some v) := fun j v hv => by
            have e : (⟨w2.heap.size, 0, none⟩ : Addr).add j = ⟨w2.heap.size, j, none⟩ := by unfold Addr.add; split <;> simp_all
            rw [e, hbl.cell]; exact hv
          have HONE : Hid (∀ v ∈ rc ⟨((J + 1 : Nat) : Int), 1, decide (0 < y1)⟩, v.oneCell' = true) := fun v hv => by
            simp only [rc, List.mem_cons, List.not_mem_nil, or_false] at hv
            rcases hv with rfl | rfl | rfl <;> rfl
          have hs2 := B2.out.size
          rw [HN.out] at HO
          clear hbl
          go_wp2_with (at_builtin; refine wpList_append_lies _ rfl _ _ 142 rfl w.heap.size 144 i0 _ 3 24 Tryz.underlying142 hi0 hz0 hz1 hz2 rfl (by omega) _ n (rcs out) rfl HO.out ⟨w2.heap.size, 0, none⟩ 1 1 (rc ⟨((J + 1 : Nat) : Int), 1, decide (0 < y1)⟩) rfl rfl HNEW.out HONE.out (by omega) (by simp only [maxLen]; omega) (by omega) (by simp; omega) _ rfl ?_; intro g' cap' w' h2 h3 h4 h5)
          have hln : (out ++ [(⟨((J + 1 : Nat) : Int), 1, decide (0 < y1)⟩ : Rn)]).length = n + 1 := by rw [List.length_append, HN.out]; rfl
          obtain ⟨rt, hbase⟩ := Rt.owned (L := out ++ [⟨((J + 1 : Nat) : Int), 1, decide (0 < y1)⟩]) (by rw [rcs_app]; exact h2) hln
          have h3' : (w2.alloc (.cells #[.int .i64 ((J + 1 : Nat) : Int), .int .i64 1, .bool (decide (0 < y1))] 144)).grownBy w' (some go) := h3
          have RT := Lib.hid rt
          have BT := Lib.hid (grown_new (up_alloc B2.out _) h3' hgo)
          have HLN := Lib.hid hln
          clear rt h2 h3 h4 h5 h3' hln
          go_roundw
          case rel => exact ⟨J + 1 + 1, g', cap', n + 1, _, by omega, by go_num, rfl, HLN.out, HCUT.out, RT.out, hbase, BT.out⟩
          case measure => simp [intOf]; omega
    · obtain rfl : I = N := by omega
      have e := HC.out.all HW.out
      subst e
      rw [← HN.out]
      go_wp2
      go_ret
      exact ⟨go, cap, rfl, HR.out, hgo, HB.out⟩
end Go.Proofs.YtjnknnakllbaaaaGreat.Sp
