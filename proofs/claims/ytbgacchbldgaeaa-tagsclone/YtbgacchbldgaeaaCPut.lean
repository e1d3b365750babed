/-
  The document's tags: what is put lies in a block of its own. A contract that the claimed proofs use.
-/
import Derived.Test.YtbgacchbldgaeaaRefPut
namespace Go.Proofs.Ytbgacchbldgaeaa.Cl
open Go.RowKit Go.Maps

set_option maxRecDepth 100000 in
set_option maxHeartbeats 8000000 in
theorem rput_yes {P : Nat} {v : Value} {L : List Tr} {w : World} (h : Rf w P v L) (hw : Wf L) (r : Tr) (hok : r.ok = true) (hno : hasB L r.p r.s = false) :
    Calls Try.prog 29 #[.pointer (some ⟨P, 0, none⟩), .agg #[.int .i64 r.p, .int .i64 r.s, .int .i64 r.k, .int .i64 r.z]] w fun e w' => e = .returned (.int .i64 0) ∧ (∃ v', Rf w' P v' (ins r L) ∧ ∀ j, v'.ownBlock = some j → w.heap.size ≤ j) ∧ w.grownBy w' (some P) := by
  obtain ⟨w1, hw1⟩ : ∃ w1, w.alloc (.cells #[.int .i64 r.p, .int .i64 r.s, .int .i64 r.k, .int .i64 r.z] 44) = w1 := ⟨_, rfl⟩
  have b1 : Below w.heap.size w w1 := by rw [← hw1]; exact up_alloc (Below.refl _ _) _
  have hbx : Blk w1 w.heap.size (row4 r) 44 := by rw [← hw1]; exact Blk.new w (row4 r) 44
  have h1 := h.below b1
  have HPl := Lib.hid (fun W => rplace_any r.p r.s W)
  have HTg := Lib.hid (fun W => rtag_any r.k r.z W)
  have hpp := (Tr.ok_iff.1 hok).1
  have htt := (Tr.ok_iff.1 hok).2
  have HFi := Lib.hid (find_any h1 hw.len r.p r.s)
  have hfi : fiI L r.p r.s = -1 := by unfold fiI; rw [hno]; rfl
  rw [hpp] at HPl
  rw [htt] at HTg
  rw [hfi] at HFi
  have HB1 := Lib.hid b1
  have HX := Lib.hid hbx
  have HW := Lib.hid hw
  have hl := hw.len
  have hPw : P < w.heap.size := h.blk.lt
  obtain ⟨A, c, hv⟩ := h1.form
  subst hv
  have HAt := Lib.hid (h1.at rfl)
  have HR1 := Lib.hid h1
  have c0 := h1.cell
  obtain ⟨N, hN⟩ : ∃ N, L.length = N := ⟨_, rfl⟩
  have HN := Lib.hid hN
  rw [hN] at c0 hl
  obtain ⟨rp, rs, rk, rz⟩ := r
  simp only [] at hw1
  have x0 : w1.cell? ⟨w.heap.size, 0, none⟩ = some (.int .i64 rp) := hbx.cell
  have x1 : w1.cell? ⟨w.heap.size, 1, none⟩ = some (.int .i64 rs) := hbx.cell
  have x2 : w1.cell? ⟨w.heap.size, 2, none⟩ = some (.int .i64 rk) := hbx.cell
  have x3 : w1.cell? ⟨w.heap.size, 3, none⟩ = some (.int .i64 rz) := hbx.cell
  clear h hw hok hno b1 hbx h1 hfi hN hpp htt
  go_enter Try.func29, Try.ntmps29
  go_wp2_with (first
    | (go_at_call 25; refine (HPl.out _).mono ?_; rintro e w' ⟨rfl, rfl⟩)
    | (go_at_call 26; refine (HTg.out _).mono ?_; rintro e w' ⟨rfl, rfl⟩)
    | (go_at_call 12; refine HFi.out.mono ?_; rintro e w' ⟨rfl, rfl⟩))
  clear hw1
  go_loopw [5, 6, 7] (fun u d i wr => ∃ (v : Value) (k : Nat), v = u ∧ k ≤ N ∧ i = .int .i64 k ∧ d = .bool (st ⟨rp, rs, rk, rz⟩ (L.take k)).2 ∧ wr.ownsRow w1.heap.size 44 4 v (st ⟨rp, rs, rk, rz⟩ (L.take k)).1.length (flat4 (st ⟨rp, rs, rk, rz⟩ (L.take k)).1) ∧ Below w1.heap.size w1 wr) (fun _ _ i _ => N - (intOf i).toNat)
  case atStart => exact ⟨_, 0, rfl, by omega, rfl, rfl, World.ownsRow_made w1 #[] 0 (Nat.le_refl _) (by decide) rfl, up_alloc (Below.refl _ _) _⟩
  case round =>
    obtain ⟨v, k, rfl, hk, rfl, rfl, ho, hb⟩ := hrel
    have HO := Lib.hid ho
    have HB := Lib.hid hb
    have hnb : ∀ j, v.ownBlock = some j → w1.heap.size ≤ j ∧ j < wr.heap.size := fun j hj => ho.lt j hj
    have hsz := hb.size
    have HXr := Lib.hid (HX.out.below hb)
    have y0 : wr.cell? ⟨w.heap.size, 0, none⟩ = some (.int .i64 rp) := HXr.out.cell
    have y1 : wr.cell? ⟨w.heap.size, 1, none⟩ = some (.int .i64 rs) := HXr.out.cell
    have y2 : wr.cell? ⟨w.heap.size, 2, none⟩ = some (.int .i64 rk) := HXr.out.cell
    have y3 : wr.cell? ⟨w.heap.size, 3, none⟩ = some (.int .i64 rz) := HXr.out.cell
    have hxl := HX.out.lt
    have HRr := Lib.hid (HR1.out.below hb)
    have c1 := HRr.out.cell
    rw [HN.out] at c1
    have hslen := st_len ⟨rp, rs, rk, rz⟩ (L.take k)
    have htl : (L.take k).length ≤ k := by rw [List.length_take]; omega
    clear ho hb x0 x1 x2 x3 c0
    by_cases hlt : k < N
    · have hkl : k < L.length := by rw [HN.out]; exact hlt
      obtain ⟨b, o, rfl, hbl, q0, q1, q2, q3⟩ := (HAt.out.below HB.out).row hkl
      have j1 : (0 : Int) ≤ (k : Int) := by omega
      have j2 : (k : Int) < (N : Int) := by omega
      have hst : Hid (st ⟨rp, rs, rk, rz⟩ (L.take (k + 1)) = stp ⟨rp, rs, rk, rz⟩ (st ⟨rp, rs, rk, rz⟩ (L.take k)) L[k]) := by show _ = _; rw [List.take_succ_eq_append_getElem hkl, st_snoc]
      obtain ⟨x, hx⟩ : ∃ x, L[k] = x := ⟨_, rfl⟩
      rw [hx] at q0 q1 q2 q3 hst
      obtain ⟨xp, xs, xk, xz⟩ := x
      simp only [] at q0 q1 q2 q3
      obtain ⟨w2, hw2⟩ : ∃ w2, wr.alloc (.cells #[.int .i64 xp, .int .i64 xs, .int .i64 xk, .int .i64 xz] 44) = w2 := ⟨_, rfl⟩
      have b2 : Below wr.heap.size wr w2 := by rw [← hw2]; exact up_alloc (Below.refl _ _) _
      have z : Blk w2 wr.heap.size (row4 ⟨xp, xs, xk, xz⟩) 44 := by rw [← hw2]; exact Blk.new wr (row4 ⟨xp, xs, xk, xz⟩) 44
      have z0 : w2.cell? ⟨wr.heap.size, 0, none⟩ = some (.int .i64 xp) := z.cell
      have z1 : w2.cell? ⟨wr.heap.size, 1, none⟩ = some (.int .i64 xs) := z.cell
      have z2 : w2.cell? ⟨wr.heap.size, 2, none⟩ = some (.int .i64 xk) := z.cell
      have z3 : w2.cell? ⟨wr.heap.size, 3, none⟩ = some (.int .i64 xz) := z.cell
      have r2 := HXr.out.below b2
      have t0 : w2.cell? ⟨w.heap.size, 0, none⟩ = some (.int .i64 rp) := r2.cell
      have t1 : w2.cell? ⟨w.heap.size, 1, none⟩ = some (.int .i64 rs) := r2.cell
      have t2 : w2.cell? ⟨w.heap.size, 2, none⟩ = some (.int .i64 rk) := r2.cell
      have t3 : w2.cell? ⟨w.heap.size, 3, none⟩ = some (.int .i64 rz) := r2.cell
      have HO2 := Lib.hid (own_below HO.out b2)
      have HB2 := Lib.hid (up_trans HB.out b2)
      have HZ := Lib.hid z
      have hs2 : wr.heap.size < w2.heap.size := z.lt
      have HST := hst
      obtain ⟨l, hl1⟩ : ∃ l, (st ⟨rp, rs, rk, rz⟩ (L.take k)).1 = l := ⟨_, rfl⟩
      obtain ⟨d, hd1⟩ : ∃ d, (st ⟨rp, rs, rk, rz⟩ (L.take k)).2 = d := ⟨_, rfl⟩
      rw [hl1] at HO2 hslen
      rw [hd1]
      have HL1 := Lib.hid hl1
      have HD1 := Lib.hid hd1
      clear hx hkl b2 z r2 hl1 hd1 hst
      cases d with
      | true =>
        have hs := Lib.hid ((HST.out.trans (stp_same HL1.out HD1.out (.inl rfl))))
        go_wp2_with (first
          | (at_builtin; refine app_law el44 rfl _ _ rfl rfl (HO2.out.alloc _) rfl (Blk.new w2 (row4 ⟨xp, xs, xk, xz⟩) 44) rfl (by simp [row4, Value.oneCell']) (by omega) (by rw [World.size_alloc]; omega) ?_; intro g' cap' w3 ho3 hg3 _)
          | go_in)
        have hb3 : Hid (Below w1.heap.size w1 w3) := (up_alloc HB2.out _).grown hg3.out (up_alloc HB2.out _).size (fun j hj => (hnb j hj).1)
        have ho4 : Hid (w3.ownsRow w1.heap.size 44 4 (.slice (some ⟨g', 0, none⟩) (l.length + 1) cap') (st ⟨rp, rs, rk, rz⟩ (L.take (k + 1))).1.length (flat4 (st ⟨rp, rs, rk, rz⟩ (L.take (k + 1))).1)) := by
          show World.ownsRow _ _ _ _ _ _ _
          rw [hs.out, List.length_append, flat4_snoc]; exact ho3.out
        clear ho3 hg3
        go_wp2_with fail
        go_roundw
        case rel => exact ⟨_, k + 1, rfl, by omega, by go_num, by rw [hs.out], ho4.out, hb3.out⟩
        case measure => simp [intOf]; omega
      | false =>
        by_cases e1 : rp < xp
        · have d1 : decide (rp < xp) = true := by simpa using e1
          have hs := Lib.hid ((HST.out.trans (stp_here HL1.out HD1.out (by unfold ltR; simp only []; omega))))
          go_wp2_with (first
            | (at_builtin; refine app_law el44 rfl _ _ rfl rfl (ho3.out.alloc _) rfl (Blk.new w3 (row4 ⟨xp, xs, xk, xz⟩) 44) rfl (by simp [row4, Value.oneCell']) (by omega) (by rw [World.size_alloc]; have := hg3.out.size; rw [World.size_alloc] at this; omega) ?_; intro g5 cap5 w5 ho5 hg5 _)
            | (at_builtin; refine app_law el44 rfl _ _ rfl rfl (HO2.out.alloc _) rfl (Blk.new w2 (row4 ⟨rp, rs, rk, rz⟩) 44) rfl (by simp [row4, Value.oneCell']) (by omega) (by rw [World.size_alloc]; omega) ?_; intro g' cap' w3 ho3 hg3 _; have hz3 : Blk w3 wr.heap.size (row4 ⟨xp, xs, xk, xz⟩) 44 := (HZ.out.below (up_alloc (Below.refl _ _) _)).of (hg3.out.block _ (by rw [World.size_alloc]; omega) (fun e => by have := hnb _ e.symm; omega)); have k0 : w3.cell? ⟨wr.heap.size, 0, none⟩ = some (.int .i64 xp) := hz3.cell; have k1 : w3.cell? ⟨wr.heap.size, 1, none⟩ = some (.int .i64 xs) := hz3.cell; have k2 : w3.cell? ⟨wr.heap.size, 2, none⟩ = some (.int .i64 xk) := hz3.cell; have k3 : w3.cell? ⟨wr.heap.size, 3, none⟩ = some (.int .i64 xz) := hz3.cell; clear hz3)
            | go_in)
          have hb3 : Below w1.heap.size w1 w3 := (up_alloc HB2.out _).grown hg3.out (up_alloc HB2.out _).size (fun j hj => (hnb j hj).1)
          have hb5 : Hid (Below w1.heap.size w1 w5) := (up_alloc hb3 _).grown hg5.out (up_alloc hb3 _).size (fun j hj => (ho3.out.lt j hj).1)
          have ho6 : Hid (w5.ownsRow w1.heap.size 44 4 (.slice (some ⟨g5, 0, none⟩) (l.length + 1 + 1) cap5) (st ⟨rp, rs, rk, rz⟩ (L.take (k + 1))).1.length (flat4 (st ⟨rp, rs, rk, rz⟩ (L.take (k + 1))).1)) := by
            show World.ownsRow _ _ _ _ _ _ _
            have e : l ++ [⟨rp, rs, rk, rz⟩, ⟨xp, xs, xk, xz⟩] = (l ++ [⟨rp, rs, rk, rz⟩]) ++ [(⟨xp, xs, xk, xz⟩ : Tr)] := by simp
            rw [hs.out, e, List.length_append, List.length_append, flat4_snoc, flat4_snoc]; exact ho5.out
          clear ho3 hg3 ho5 hg5 hb3
          go_wp2_with fail
          go_roundw
          case rel => exact ⟨_, k + 1, rfl, by omega, by go_num, by rw [hs.out], ho6.out, hb5.out⟩
          case measure => simp [intOf]; omega
        · have d1 : decide (rp < xp) = false := by simpa using e1
          by_cases e2 : xp = rp
          · have d2 : (xp == rp) = true := by simpa using e2
            by_cases e3 : rs < xs
            · have d3 : decide (rs < xs) = true := by simpa using e3
              subst e2
              have hs := Lib.hid ((HST.out.trans (stp_here HL1.out HD1.out (Or.inr ⟨rfl, e3⟩))))
              go_wp2_with (first
                | (at_builtin; refine app_law el44 rfl _ _ rfl rfl (ho3.out.alloc _) rfl (Blk.new w3 (row4 ⟨xp, xs, xk, xz⟩) 44) rfl (by simp [row4, Value.oneCell']) (by omega) (by rw [World.size_alloc]; have := hg3.out.size; rw [World.size_alloc] at this; omega) ?_; intro g5 cap5 w5 ho5 hg5 _)
                | (at_builtin; refine app_law el44 rfl _ _ rfl rfl (HO2.out.alloc _) rfl (Blk.new w2 (row4 ⟨xp, rs, rk, rz⟩) 44) rfl (by simp [row4, Value.oneCell']) (by omega) (by rw [World.size_alloc]; omega) ?_; intro g' cap' w3 ho3 hg3 _; have hz3 : Blk w3 wr.heap.size (row4 ⟨xp, xs, xk, xz⟩) 44 := (HZ.out.below (up_alloc (Below.refl _ _) _)).of (hg3.out.block _ (by rw [World.size_alloc]; omega) (fun e => by have := hnb _ e.symm; omega)); have k0 : w3.cell? ⟨wr.heap.size, 0, none⟩ = some (.int .i64 xp) := hz3.cell; have k1 : w3.cell? ⟨wr.heap.size, 1, none⟩ = some (.int .i64 xs) := hz3.cell; have k2 : w3.cell? ⟨wr.heap.size, 2, none⟩ = some (.int .i64 xk) := hz3.cell; have k3 : w3.cell? ⟨wr.heap.size, 3, none⟩ = some (.int .i64 xz) := hz3.cell; clear hz3)
                | go_in)
              have hb3 : Below w1.heap.size w1 w3 := (up_alloc HB2.out _).grown hg3.out (up_alloc HB2.out _).size (fun j hj => (hnb j hj).1)
              have hb5 : Hid (Below w1.heap.size w1 w5) := (up_alloc hb3 _).grown hg5.out (up_alloc hb3 _).size (fun j hj => (ho3.out.lt j hj).1)
              have ho6 : Hid (w5.ownsRow w1.heap.size 44 4 (.slice (some ⟨g5, 0, none⟩) (l.length + 1 + 1) cap5) (st ⟨xp, rs, rk, rz⟩ (L.take (k + 1))).1.length (flat4 (st ⟨xp, rs, rk, rz⟩ (L.take (k + 1))).1)) := by
                show World.ownsRow _ _ _ _ _ _ _
                have e : l ++ [⟨xp, rs, rk, rz⟩, ⟨xp, xs, xk, xz⟩] = (l ++ [⟨xp, rs, rk, rz⟩]) ++ [(⟨xp, xs, xk, xz⟩ : Tr)] := by simp
                rw [hs.out, e, List.length_append, List.length_append, flat4_snoc, flat4_snoc]; exact ho5.out
              clear ho3 hg3 ho5 hg5 hb3
              go_wp2_with fail
              go_roundw
              case rel => exact ⟨_, k + 1, rfl, by omega, by go_num, by rw [hs.out], ho6.out, hb5.out⟩
              case measure => simp [intOf]; omega
            · have d3 : decide (rs < xs) = false := by simpa using e3
              subst e2
              have hs := Lib.hid ((HST.out.trans (stp_same HL1.out HD1.out (.inr (by unfold ltR; simp only []; omega)))))
              go_wp2_with (first
                | (at_builtin; refine app_law el44 rfl _ _ rfl rfl (HO2.out.alloc _) rfl (Blk.new w2 (row4 ⟨xp, xs, xk, xz⟩) 44) rfl (by simp [row4, Value.oneCell']) (by omega) (by rw [World.size_alloc]; omega) ?_; intro g' cap' w3 ho3 hg3 _)
                | go_in)
              have hb3 : Hid (Below w1.heap.size w1 w3) := (up_alloc HB2.out _).grown hg3.out (up_alloc HB2.out _).size (fun j hj => (hnb j hj).1)
              have ho4 : Hid (w3.ownsRow w1.heap.size 44 4 (.slice (some ⟨g', 0, none⟩) (l.length + 1) cap') (st ⟨xp, rs, rk, rz⟩ (L.take (k + 1))).1.length (flat4 (st ⟨xp, rs, rk, rz⟩ (L.take (k + 1))).1)) := by
                show World.ownsRow _ _ _ _ _ _ _
                rw [hs.out, List.length_append, flat4_snoc]; exact ho3.out
              clear ho3 hg3
              go_wp2_with fail
              go_roundw
              case rel => exact ⟨_, k + 1, rfl, by omega, by go_num, by rw [hs.out], ho4.out, hb3.out⟩
              case measure => simp [intOf]; omega
          · have d2 : (xp == rp) = false := by simpa using e2
            have hs := Lib.hid ((HST.out.trans (stp_same HL1.out HD1.out (.inr (by unfold ltR; simp only []; omega)))))
            go_wp2_with (first
              | (at_builtin; refine app_law el44 rfl _ _ rfl rfl (HO2.out.alloc _) rfl (Blk.new w2 (row4 ⟨xp, xs, xk, xz⟩) 44) rfl (by simp [row4, Value.oneCell']) (by omega) (by rw [World.size_alloc]; omega) ?_; intro g' cap' w3 ho3 hg3 _)
              | go_in)
            have hb3 : Hid (Below w1.heap.size w1 w3) := (up_alloc HB2.out _).grown hg3.out (up_alloc HB2.out _).size (fun j hj => (hnb j hj).1)
            have ho4 : Hid (w3.ownsRow w1.heap.size 44 4 (.slice (some ⟨g', 0, none⟩) (l.length + 1) cap') (st ⟨rp, rs, rk, rz⟩ (L.take (k + 1))).1.length (flat4 (st ⟨rp, rs, rk, rz⟩ (L.take (k + 1))).1)) := by
              show World.ownsRow _ _ _ _ _ _ _
              rw [hs.out, List.length_append, flat4_snoc]; exact ho3.out
            clear ho3 hg3
            go_wp2_with fail
            go_roundw
            case rel => exact ⟨_, k + 1, rfl, by omega, by go_num, by rw [hs.out], ho4.out, hb3.out⟩
            case measure => simp [intOf]; omega
    · obtain rfl : k = N := by omega
      have htk : L.take k = L := List.take_of_length_le (by rw [HN.out]; omega)
      rw [htk] at HO hslen ⊢
      have hLk : L.length ≤ 524288 := by rw [HN.out]; omega
      clear htk
      cases hd : (st ⟨rp, rs, rk, rz⟩ L).2 with
      | true =>
        have he := st_done hd
        rw [he] at HO
        have fz := HRr.out.blk.frozen 0
        clear he
        obtain ⟨A2, c2, rfl⟩ := own_form HO.out
        go_wp2_with fail
        go_ret
        exact ⟨rfl, ⟨_, ⟨HRr.out.blk.set _, own_down (HO.out.kept (grown_set wr P 0 _) (.inr (fun e => by have := hnb P e; omega))) (Nat.zero_le _)⟩, fun j hj => by have := (HO.out.lt j hj).1; omega⟩, grown_trans (grown_below (up_trans HB1.out HB.out)) (grown_set wr P 0 _)⟩
      | false =>
        have he := Lib.hid (st_open hd)
        obtain ⟨A2, c2, rfl⟩ := own_form HO.out
        go_wp2_with (first
          | (at_builtin; refine app_law el44 rfl _ _ rfl rfl (HO.out.alloc _) rfl (Blk.new wr (row4 ⟨rp, rs, rk, rz⟩) 44) rfl (by simp [row4, Value.oneCell']) (by omega) (by rw [World.size_alloc]; omega) ?_; intro g' cap' w3 ho3 hg3 _; have hr3 : Rf w3 P (.slice A k c) L := (by have hrr := HRr.out.below (up_alloc (Below.refl _ wr) (.cells #[.int .i64 rp, .int .i64 rs, .int .i64 rk, .int .i64 rz] 44)); rw [HN.out] at hrr; exact ⟨hrr.blk.of (hg3.out.block P (by rw [World.size_alloc]; omega) (fun e => by have := hnb _ e.symm; omega)), (by refine own_of hrr.own (fun j hj => hg3.out.block j (hrr.own.lt j hj).2 (fun e => ?_)); have h1 := (hnb _ e.symm).1; have h2 := (HR1.out.own.lt j (by rw [HN.out]; exact hj)).2; omega)⟩); have fz := hr3.blk.frozen 0; have c3 := hr3.cell; have HR3 := Lib.hid hr3; clear hr3)
          | go_in)
        go_ret
        have hb3 : Below w1.heap.size w1 w3 := (up_alloc HB.out _).grown hg3.out (up_alloc HB.out _).size (fun j hj => (hnb j hj).1)
        refine ⟨rfl, ⟨_, ⟨HR3.out.blk.set _, ?_⟩, fun j hj => by have := (ho3.out.lt j hj).1; omega⟩, grown_trans (grown_below (up_trans HB1.out hb3)) (grown_set w3 P 0 _)⟩
        rw [← he.out, List.length_append, flat4_snoc]
        exact own_down (ho3.out.kept (grown_set w3 P 0 _) (.inr (by have := (ho3.out.lt g' rfl).1; simp [Value.ownBlock]; omega))) (Nat.zero_le _)
end Go.Proofs.Ytbgacchbldgaeaa.Cl
