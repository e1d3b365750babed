/-
  The document's tags: what is moved lies where it lay or in a block of its own. A contract that the claimed proofs use.
-/
import Derived.Test.YtbgacchbldgaeaaCDrop
namespace Go.Proofs.Ytbgacchbldgaeaa.Cl
open Go.RowKit Go.Maps

theorem RWrote.via {P : Nat} {v v5 : Value} {L : List Tr} {w w5 w6 : World} (h : w.grownBy w5 (some P)) (hv : v5 = v ∨ ∀ j, v5.ownBlock = some j → w.heap.size ≤ j) (h2 : RWrote P v5 L w5 w6) : RWrote P v L w w6 := by
  obtain ⟨⟨v6, r6, n6⟩, g6⟩ := h2
  refine ⟨⟨v6, r6, ?_⟩, grown_trans h g6⟩
  have hs := h.size
  rcases n6 with rfl | n6
  · exact hv
  · exact .inr (fun j hj => Nat.le_trans hs (n6 j hj))
set_option maxRecDepth 100000 in
set_option maxHeartbeats 4000000 in
theorem rmove_any {P : Nat} {v : Value} {L : List Tr} {w : World} (h : Rf w P v L) (hw : Wf L) (p s : Int) (r : Tr) :
    Calls Try.prog 31 #[.pointer (some ⟨P, 0, none⟩), .int .i64 p, .int .i64 s, .agg #[.int .i64 r.p, .int .i64 r.s, .int .i64 r.k, .int .i64 r.z]] w fun e w' => e = .returned (.int .i64 (movE L p s r)) ∧ RWrote P v (movL L p s r) w w' := by
  have hl := hw.len
  obtain ⟨w1, hw1⟩ : ∃ w1, w.alloc (.cells #[.int .i64 r.p, .int .i64 r.s, .int .i64 r.k, .int .i64 r.z] 44) = w1 := ⟨_, rfl⟩
  have b1 : Below w.heap.size w w1 := by rw [← hw1]; exact up_alloc (Below.refl _ _) _
  have hbx : Blk w1 w.heap.size (row4 r) 44 := by rw [← hw1]; exact Blk.new w (row4 r) 44
  have h1 := h.below b1
  have HPl := Lib.hid (fun W => rplace_any r.p r.s W)
  have HTg := Lib.hid (fun W => rtag_any r.k r.z W)
  have HF1 := Lib.hid (find_any h1 hl p s)
  have HF2 := Lib.hid (find_any h1 hl r.p r.s)
  have HDr := Lib.hid (rdrop_any h1 hw p s)
  have HF : Hid (RWrote P v L w w1) := ⟨⟨_, h1, .inl rfl⟩, grown_below b1⟩
  have H1 := Lib.hid (mov_no1 (L := L) (p := p) (s := s) (r := r))
  have H2 := Lib.hid (mov_no2 (L := L) (p := p) (s := s) (r := r))
  have H3 := Lib.hid (mov_no3 (L := L) (p := p) (s := s) (r := r))
  have H4 := Lib.hid (mov_no4 (L := L) (p := p) (s := s) (r := r))
  have H5 := Lib.hid (mov_yes (L := L) (p := p) (s := s) (r := r))
  have H6 := Lib.hid (mov_free (L := L) (p := p) (s := s) (r := r))
  obtain ⟨E, hE⟩ : ∃ E, movE L p s r = E := ⟨_, rfl⟩
  obtain ⟨L', hL'⟩ : ∃ L', movL L p s r = L' := ⟨_, rfl⟩
  rw [hE, hL'] at H1 H2 H3 H4 H5
  rw [hE, hL']
  have HOk := Lib.hid (Tr.ok_iff (r := r))
  have HW := Lib.hid hw
  have HB1 := Lib.hid b1
  have hPw := h.blk.lt
  have HX := Lib.hid hbx
  have hv1 : fiI L p s = (if hasB L p s then (fi L p s : Int) else -1) := rfl
  have hv2 : fiI L r.p r.s = (if hasB L r.p r.s then (fi L r.p r.s : Int) else -1) := rfl
  rw [hv1] at HF1
  rw [hv2] at HF2
  obtain ⟨rp, rs, rk, rz⟩ := r
  have x0 : w1.cell? ⟨w.heap.size, 0, none⟩ = some (.int .i64 rp) := hbx.cell
  have x1 : w1.cell? ⟨w.heap.size, 1, none⟩ = some (.int .i64 rs) := hbx.cell
  have x2 : w1.cell? ⟨w.heap.size, 2, none⟩ = some (.int .i64 rk) := hbx.cell
  have x3 : w1.cell? ⟨w.heap.size, 3, none⟩ = some (.int .i64 rz) := hbx.cell
  simp only [] at HPl HTg HF2 H1 H2 H3 H4 H5 H6 HOk hw1
  have HPut : Hid (∀ (W : World) (V : Value), Rf W P V (del L p s) → Calls Try.prog 29 #[.pointer (some ⟨P, 0, none⟩), .agg #[.int .i64 rp, .int .i64 rs, .int .i64 rk, .int .i64 rz]] W fun e w' => e = .returned (.int .i64 (putE (del L p s) ⟨rp, rs, rk, rz⟩)) ∧ RWrote P V (putL (del L p s) ⟨rp, rs, rk, rz⟩) W w') := fun W V hR => rput_any hR (HW.out.del p s) ⟨rp, rs, rk, rz⟩
  have HPY := Lib.hid (put_yes (L := del L p s) (r := ⟨rp, rs, rk, rz⟩))
  simp only [] at HPY
  clear h hbx b1 hE hL' h1 hw hv1 hv2
  cases e1 : plB rp rs with
  | false =>
    obtain ⟨rfl, hLL⟩ := H1.out e1
    have HLL := Lib.hid hLL
    clear hLL
    go_enter Try.func31, Try.ntmps31
    go_wp2_with (first
      | (go_at_call 25; refine (HPl.out _).mono ?_; rintro e w' ⟨rfl, rfl⟩; rw [e1]))
    go_ret
    exact ⟨rfl, by rw [HLL.out]; exact HF.out⟩
  | true =>
    cases e2 : tgB rk rz with
    | false =>
      obtain ⟨rfl, hLL⟩ := H2.out e2
      have HLL := Lib.hid hLL
      clear hLL
      go_enter Try.func31, Try.ntmps31
      go_wp2_with (first
        | (go_at_call 25; refine (HPl.out _).mono ?_; rintro e w' ⟨rfl, rfl⟩; rw [e1])
        | (go_at_call 26; refine (HTg.out _).mono ?_; rintro e w' ⟨rfl, rfl⟩; rw [e2]))
      go_ret
      exact ⟨rfl, by rw [HLL.out]; exact HF.out⟩
    | true =>
      have HO := Lib.hid (HOk.out.2 ⟨e1, e2⟩)
      cases e3 : hasB L p s with
      | false =>
        obtain ⟨rfl, hLL⟩ := H3.out HO.out e3
        have HLL := Lib.hid hLL
        rw [e3, if_neg (by simp)] at HF1
        clear hLL
        go_enter Try.func31, Try.ntmps31
        go_wp2_with (first
          | (go_at_call 25; refine (HPl.out _).mono ?_; rintro e w' ⟨rfl, rfl⟩; rw [e1])
          | (go_at_call 26; refine (HTg.out _).mono ?_; rintro e w' ⟨rfl, rfl⟩; rw [e2])
          | (go_at_call 12; refine HF1.out.mono ?_; rintro e w' ⟨rfl, rfl⟩))
        go_ret
        exact ⟨rfl, by rw [HLL.out]; exact HF.out⟩
      | true =>
        rw [e3, if_pos rfl] at HF1
        generalize fi L p s = F1 at HF1
        have hd1 : decide ((F1 : Int) < 0) = false := by simp
        have tail : ∀ (hc : ((!(rp == p && rs == s)) && hasB L rp rs) = false), Hid (E = 0 ∧ L' = ins ⟨rp, rs, rk, rz⟩ (del L p s) ∧ putE (del L p s) ⟨rp, rs, rk, rz⟩ = 0 ∧ putL (del L p s) ⟨rp, rs, rk, rz⟩ = ins ⟨rp, rs, rk, rz⟩ (del L p s)) := fun hc => by
          obtain ⟨a1, a2⟩ := H5.out HO.out e3 hc
          obtain ⟨a3, a4⟩ := HPY.out HO.out (H6.out hc)
          exact ⟨a1, a2, a3, a4⟩
        have HTail : Hid (∀ (hc : ((!(rp == p && rs == s)) && hasB L rp rs) = false), Hid (E = 0 ∧ L' = ins ⟨rp, rs, rk, rz⟩ (del L p s) ∧ putE (del L p s) ⟨rp, rs, rk, rz⟩ = 0 ∧ putL (del L p s) ⟨rp, rs, rk, rz⟩ = ins ⟨rp, rs, rk, rz⟩ (del L p s))) := tail
        have HNo : Hid (((!(rp == p && rs == s)) && hasB L rp rs) = true → E = 15 ∧ L' = L) := fun hc => H4.out HO.out e3 hc
        clear tail H1 H2 H3 H4 H5 H6 HOk HPY
        by_cases q1 : p = rp
        · by_cases q2 : s = rs
          · subst q1; subst q2
            have HC : Hid (((!(p == p && s == s)) && hasB L p s) = false) := by show _ = _; simp
            obtain ⟨rfl, k2, k3, k4⟩ := (HTail.out HC.out).out
            have K2 := Lib.hid k2
            have K4 := Lib.hid k4
            have K3 := Lib.hid k3
            clear k2 k3 k4
            go_enter Try.func31, Try.ntmps31
            go_wp2_with (first
              | (go_at_call 25; refine (HPl.out _).mono ?_; rintro e w' ⟨rfl, rfl⟩; rw [e1])
              | (go_at_call 26; refine (HTg.out _).mono ?_; rintro e w' ⟨rfl, rfl⟩; rw [e2])
              | (go_at_call 12; refine HF1.out.mono ?_; rintro e w' ⟨rfl, rfl⟩)
              | (go_at_call 30; refine HDr.out.mono ?_; rintro e w5 ⟨⟨xa, xb, rfl⟩, ⟨v5, hr5, hn5⟩, hg5⟩; have HR5 := Lib.hid hr5; have HN5 := Lib.hid hn5; clear hn5; have HG5 := Lib.hid hg5; have hx5 : Blk w5 w.heap.size (row4 ⟨p, s, rk, rz⟩) 44 := HX.out.of (hg5.block _ HX.out.lt (fun e => by have := Option.some.inj e; omega)); have y0 : w5.cell? ⟨w.heap.size, 0, none⟩ = some (.int .i64 p) := hx5.cell; have y1 : w5.cell? ⟨w.heap.size, 1, none⟩ = some (.int .i64 s) := hx5.cell; have y2 : w5.cell? ⟨w.heap.size, 2, none⟩ = some (.int .i64 rk) := hx5.cell; have y3 : w5.cell? ⟨w.heap.size, 3, none⟩ = some (.int .i64 rz) := hx5.cell; clear hr5 hg5 hx5)
              | (go_at_call 29; refine (HPut.out _ _ HR5.out).mono ?_; rintro e w6 ⟨rfl, hr6⟩; rw [K3.out]; have HR6 := Lib.hid hr6; clear hr6))
            go_ret
            refine ⟨rfl, ?_⟩
            have h6 := HR6.out
            rw [K4.out] at h6
            rw [K2.out]
            exact h6.via (grown_trans (grown_below HB1.out) HG5.out) (HN5.out.imp_right fun h j hj => Nat.le_trans HB1.out.size (h j hj))
          · have d2 : (s == rs) = false := by simpa using q2
            subst q1
            cases e5 : hasB L p rs with
            | false =>
              rw [e5, if_neg (by simp)] at HF2
              have HC : Hid (((!(p == p && rs == s)) && hasB L p rs) = false) := by show _ = _; rw [e5]; simp
              obtain ⟨rfl, k2, k3, k4⟩ := (HTail.out HC.out).out
              have K2 := Lib.hid k2
              have K4 := Lib.hid k4
              have K3 := Lib.hid k3
              clear k2 k3 k4
              go_enter Try.func31, Try.ntmps31
              go_wp2_with (first
                | (go_at_call 25; refine (HPl.out _).mono ?_; rintro e w' ⟨rfl, rfl⟩; rw [e1])
                | (go_at_call 26; refine (HTg.out _).mono ?_; rintro e w' ⟨rfl, rfl⟩; rw [e2])
                | (go_at_call_of 12 (Value.int IntKind.i64 rs); refine HF2.out.mono ?_; rintro e w' ⟨rfl, rfl⟩)
                | (go_at_call 12; refine HF1.out.mono ?_; rintro e w' ⟨rfl, rfl⟩)
                | (go_at_call 30; refine HDr.out.mono ?_; rintro e w5 ⟨⟨xa, xb, rfl⟩, ⟨v5, hr5, hn5⟩, hg5⟩; have HR5 := Lib.hid hr5; have HN5 := Lib.hid hn5; clear hn5; have HG5 := Lib.hid hg5; have hx5 : Blk w5 w.heap.size (row4 ⟨p, rs, rk, rz⟩) 44 := HX.out.of (hg5.block _ HX.out.lt (fun e => by have := Option.some.inj e; omega)); have y0 : w5.cell? ⟨w.heap.size, 0, none⟩ = some (.int .i64 p) := hx5.cell; have y1 : w5.cell? ⟨w.heap.size, 1, none⟩ = some (.int .i64 rs) := hx5.cell; have y2 : w5.cell? ⟨w.heap.size, 2, none⟩ = some (.int .i64 rk) := hx5.cell; have y3 : w5.cell? ⟨w.heap.size, 3, none⟩ = some (.int .i64 rz) := hx5.cell; clear hr5 hg5 hx5)
                | (go_at_call 29; refine (HPut.out _ _ HR5.out).mono ?_; rintro e w6 ⟨rfl, hr6⟩; rw [K3.out]; have HR6 := Lib.hid hr6; clear hr6))
              go_ret
              refine ⟨rfl, ?_⟩
              have h6 := HR6.out
              rw [K4.out] at h6
              rw [K2.out]
              exact h6.via (grown_trans (grown_below HB1.out) HG5.out) (HN5.out.imp_right fun h j hj => Nat.le_trans HB1.out.size (h j hj))
            | true =>
              rw [e5, if_pos rfl] at HF2
              generalize fi L p rs = F2 at HF2
              have HC : Hid (((!(p == p && rs == s)) && hasB L p rs) = true) := by show _ = _; rw [e5]; simp [Ne.symm q2]
              obtain ⟨rfl, hLL⟩ := HNo.out HC.out
              have HLL := Lib.hid hLL
              clear hLL
              go_enter Try.func31, Try.ntmps31
              go_wp2_with (first
                | (go_at_call 25; refine (HPl.out _).mono ?_; rintro e w' ⟨rfl, rfl⟩; rw [e1])
                | (go_at_call 26; refine (HTg.out _).mono ?_; rintro e w' ⟨rfl, rfl⟩; rw [e2])
                | (go_at_call_of 12 (Value.int IntKind.i64 rs); refine HF2.out.mono ?_; rintro e w' ⟨rfl, rfl⟩)
                | (go_at_call 12; refine HF1.out.mono ?_; rintro e w' ⟨rfl, rfl⟩)
                )
              go_ret
              exact ⟨rfl, by rw [HLL.out]; exact HF.out⟩
        · have d1 : (p == rp) = false := by simpa using q1
          cases e5 : hasB L rp rs with
          | false =>
            rw [e5, if_neg (by simp)] at HF2
            have HC : Hid (((!(rp == p && rs == s)) && hasB L rp rs) = false) := by show _ = _; rw [e5]; simp
            obtain ⟨rfl, k2, k3, k4⟩ := (HTail.out HC.out).out
            have K2 := Lib.hid k2
            have K4 := Lib.hid k4
            have K3 := Lib.hid k3
            clear k2 k3 k4
            go_enter Try.func31, Try.ntmps31
            go_wp2_with (first
              | (go_at_call 25; refine (HPl.out _).mono ?_; rintro e w' ⟨rfl, rfl⟩; rw [e1])
              | (go_at_call 26; refine (HTg.out _).mono ?_; rintro e w' ⟨rfl, rfl⟩; rw [e2])
              | (go_at_call_of 12 (Value.int IntKind.i64 rs); refine HF2.out.mono ?_; rintro e w' ⟨rfl, rfl⟩)
              | (go_at_call 12; refine HF1.out.mono ?_; rintro e w' ⟨rfl, rfl⟩)
              | (go_at_call 30; refine HDr.out.mono ?_; rintro e w5 ⟨⟨xa, xb, rfl⟩, ⟨v5, hr5, hn5⟩, hg5⟩; have HR5 := Lib.hid hr5; have HN5 := Lib.hid hn5; clear hn5; have HG5 := Lib.hid hg5; have hx5 : Blk w5 w.heap.size (row4 ⟨rp, rs, rk, rz⟩) 44 := HX.out.of (hg5.block _ HX.out.lt (fun e => by have := Option.some.inj e; omega)); have y0 : w5.cell? ⟨w.heap.size, 0, none⟩ = some (.int .i64 rp) := hx5.cell; have y1 : w5.cell? ⟨w.heap.size, 1, none⟩ = some (.int .i64 rs) := hx5.cell; have y2 : w5.cell? ⟨w.heap.size, 2, none⟩ = some (.int .i64 rk) := hx5.cell; have y3 : w5.cell? ⟨w.heap.size, 3, none⟩ = some (.int .i64 rz) := hx5.cell; clear hr5 hg5 hx5)
              | (go_at_call 29; refine (HPut.out _ _ HR5.out).mono ?_; rintro e w6 ⟨rfl, hr6⟩; rw [K3.out]; have HR6 := Lib.hid hr6; clear hr6))
            go_ret
            refine ⟨rfl, ?_⟩
            have h6 := HR6.out
            rw [K4.out] at h6
            rw [K2.out]
            exact h6.via (grown_trans (grown_below HB1.out) HG5.out) (HN5.out.imp_right fun h j hj => Nat.le_trans HB1.out.size (h j hj))
          | true =>
            rw [e5, if_pos rfl] at HF2
            generalize fi L rp rs = F2 at HF2
            have HC : Hid (((!(rp == p && rs == s)) && hasB L rp rs) = true) := by show _ = _; rw [e5]; simp [Ne.symm q1]
            obtain ⟨rfl, hLL⟩ := HNo.out HC.out
            have HLL := Lib.hid hLL
            clear hLL
            go_enter Try.func31, Try.ntmps31
            go_wp2_with (first
              | (go_at_call 25; refine (HPl.out _).mono ?_; rintro e w' ⟨rfl, rfl⟩; rw [e1])
              | (go_at_call 26; refine (HTg.out _).mono ?_; rintro e w' ⟨rfl, rfl⟩; rw [e2])
              | (go_at_call_of 12 (Value.int IntKind.i64 rs); refine HF2.out.mono ?_; rintro e w' ⟨rfl, rfl⟩)
              | (go_at_call 12; refine HF1.out.mono ?_; rintro e w' ⟨rfl, rfl⟩)
              )
            go_ret
            exact ⟨rfl, by rw [HLL.out]; exact HF.out⟩
end Go.Proofs.Ytbgacchbldgaeaa.Cl
