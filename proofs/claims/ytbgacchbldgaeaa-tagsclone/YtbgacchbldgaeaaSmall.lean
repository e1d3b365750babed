/-
  The program's small functions: contracts that the claimed proofs use.
-/
import Derived.Test.YtbgacchbldgaeaaMem
import Derived.StillTailTactics
namespace Go.Proofs.Ytbgacchbldgaeaa
open Go.RowKit Go.Maps

/-- The tags at q: their map is block b, and has these rows. -/
structure Tg (w : World) (q b : Nat) (L : List Tr) : Prop where
  blk : Blk w q [.map (some b)] 66
  mp : Mp w b L
  wf : Wf L
theorem Tg.below {w w' : World} {q b : Nat} {L : List Tr} (h : Tg w q b L) (hb : Below w.heap.size w w') : Tg w' q b L := ⟨h.blk.below hb, h.mp.below hb, h.wf⟩
theorem Tg.of {w w' : World} {q b : Nat} {L : List Tr} (h : Tg w q b L) (e1 : w'.heap[q]? = w.heap[q]?) (e2 : w'.heap[b]? = w.heap[b]?) : Tg w' q b L := ⟨h.blk.of e1, h.mp.of e2, h.wf⟩
theorem Tg.cell {w : World} {q b : Nat} {L : List Tr} (h : Tg w q b L) : w.cell? ⟨q, 0, none⟩ = some (.map (some b)) := h.blk.cell
theorem Tg.ne {w : World} {q b : Nat} {L : List Tr} (h : Tg w q b L) : q ≠ b := by
  rintro rfl
  obtain ⟨es, c, hb⟩ := h.mp.obj
  have := h.blk
  unfold Blk at this
  rw [hb] at this; cases this
set_option maxHeartbeats 1000000 in
theorem place_any (p s : Int) (w : World) : Calls Try.prog 35 #[pv p s] w fun e w' => e = .returned (.bool (plB p s)) ∧ Below w.heap.size w w' := by
  unfold plB
  have hb : Hid (∀ o, Below w.heap.size w (w.alloc o)) := fun o => up_alloc (Below.refl _ _) o
  cases h1 : decide (0 ≤ p) <;> cases h2 : decide (p < 4096) <;> cases h3 : decide (0 ≤ s) <;> cases h4 : decide (s < 128)
  all_goals
    go_enter Try.func35, Try.ntmps35
    go_wp2_with fail
    go_ret
    exact ⟨rfl, hb.out _⟩
set_option maxHeartbeats 1000000 in
theorem tag_any (p s : Int) (w : World) : Calls Try.prog 36 #[pv p s] w fun e w' => e = .returned (.bool (tgB p s)) ∧ Below w.heap.size w w' := by
  unfold tgB
  have hb : Hid (∀ o, Below w.heap.size w (w.alloc o)) := fun o => up_alloc (Below.refl _ _) o
  cases h1 : decide (0 ≤ p) <;> cases h2 : decide (p < 64) <;> cases h3 : decide (0 ≤ s) <;> cases h4 : decide (s ≤ 1099511627776)
  all_goals
    go_enter Try.func36, Try.ntmps36
    go_wp2_with fail
    go_ret
    exact ⟨rfl, hb.out _⟩
set_option maxHeartbeats 1000000 in
theorem has_any {q b : Nat} {L : List Tr} {w : World} (h : Tg w q b L) {p s : Int} (hp : I64 p) (hs : I64 s) :
    Calls Try.prog 34 #[.pointer (some ⟨q, 0, none⟩), pv p s] w fun e w' => e = .returned (.bool (hasB L p s)) ∧ Below w.heap.size w w' := by
  obtain ⟨w1, hw1⟩ : ∃ w1, w.alloc (.cells #[.int .i64 p, .int .i64 s] 24) = w1 := ⟨_, rfl⟩
  have b1 : Below w.heap.size w w1 := by rw [← hw1]; exact up_alloc (Below.refl _ _) _
  have hbx : Blk w1 w.heap.size [.int .i64 p, .int .i64 s] 24 := by rw [← hw1]; exact Blk.new w [.int .i64 p, .int .i64 s] 24
  have H1 := Lib.hid (h.below b1)
  have c1 := H1.out.cell
  have c2 : w1.cell? ⟨w.heap.size, 0, none⟩ = some (.int .i64 p) := hbx.cell
  have c3 : w1.cell? ⟨w.heap.size, 1, none⟩ = some (.int .i64 s) := hbx.cell
  have HL : Hid (∀ W, Below w1.heap.size w1 W → (Instr.lookup 64 (.map (some b)) (pv p s) true).run Try.prog W = .ok (.tuple #[pv (rowOf L p s).k (rowOf L p s).z, .bool (hasB L p s)]) W) := fun W hW => (H1.out.below hW).mp.look hp hs
  have l1 := HL.out w1.drew ((Below.refl _ _).drew)
  have b2 : Below w1.heap.size w1 (w1.alloc (.cells #[.int .i64 0, .int .i64 0] 26)) := up_alloc (Below.refl _ _) _
  have l2 := HL.out (w1.alloc (.cells #[.int .i64 0, .int .i64 0] 26)).drew b2.drew
  have d1 := (H1.out.below b2).cell
  have d2 : (w1.alloc (.cells #[.int .i64 0, .int .i64 0] 26)).cell? ⟨w.heap.size, 0, none⟩ = some (.int .i64 p) := (hbx.below b2).cell
  have d3 : (w1.alloc (.cells #[.int .i64 0, .int .i64 0] 26)).cell? ⟨w.heap.size, 1, none⟩ = some (.int .i64 s) := (hbx.below b2).cell
  generalize hasB L p s = r at *
  generalize (rowOf L p s).k = k at *
  generalize (rowOf L p s).z = z at *
  have B1 := Lib.hid b1
  clear h hbx b1 b2 HL
  go_enter Try.func34, Try.ntmps34
  go_wp2_with fail
  clear hw1
  go_region
  all_goals
    go_wp2_with fail
    go_ret
    exact ⟨rfl, (up_alloc B1.out _).drew⟩
set_option maxHeartbeats 1000000 in
theorem get_any {q b : Nat} {L : List Tr} {w : World} (h : Tg w q b L) {p s : Int} (hp : I64 p) (hs : I64 s) :
    Calls Try.prog 11 #[.pointer (some ⟨q, 0, none⟩), pv p s] w fun e w' => e = .returned (.tuple #[pv (rowOf L p s).k (rowOf L p s).z, .bool (hasB L p s)]) ∧ Below w.heap.size w w' := by
  obtain ⟨w1, hw1⟩ : ∃ w1, (w.alloc (.cells #[.int .i64 p, .int .i64 s] 24)).alloc (.cells #[.int .i64 0, .int .i64 0] 26) = w1 := ⟨_, rfl⟩
  have b1 : Below w.heap.size w w1 := by rw [← hw1]; exact up_alloc (up_alloc (Below.refl _ _) _) _
  have hbx : Blk w1 w.heap.size [.int .i64 p, .int .i64 s] 24 := by rw [← hw1]; exact (Blk.new w [.int .i64 p, .int .i64 s] 24).below (up_alloc (Below.refl _ _) _)
  have hrs : Blk w1 (w.heap.size + 1) [.int .i64 0, .int .i64 0] 26 := by rw [← hw1]; have := Blk.new (w.alloc (.cells #[.int .i64 p, .int .i64 s] 24)) [.int .i64 0, .int .i64 0] 26; rwa [World.size_alloc] at this
  have H1 := Lib.hid (h.below b1)
  have c1 := H1.out.cell
  have c2 : w1.cell? ⟨w.heap.size, 0, none⟩ = some (.int .i64 p) := hbx.cell
  have c3 : w1.cell? ⟨w.heap.size, 1, none⟩ = some (.int .i64 s) := hbx.cell
  have HL : Hid (∀ W, Below w1.heap.size w1 W → (Instr.lookup 64 (.map (some b)) (pv p s) true).run Try.prog W = .ok (.tuple #[pv (rowOf L p s).k (rowOf L p s).z, .bool (hasB L p s)]) W) := fun W hW => (H1.out.below hW).mp.look hp hs
  have l1 := HL.out w1.drew ((Below.refl _ _).drew)
  have b2 : Below w1.heap.size w1 (w1.alloc (.cells #[.int .i64 0, .int .i64 0] 26)) := up_alloc (Below.refl _ _) _
  have l2 := HL.out (w1.alloc (.cells #[.int .i64 0, .int .i64 0] 26)).drew b2.drew
  have d1 := (H1.out.below b2).cell
  have d2 : (w1.alloc (.cells #[.int .i64 0, .int .i64 0] 26)).cell? ⟨w.heap.size, 0, none⟩ = some (.int .i64 p) := (hbx.below b2).cell
  have d3 : (w1.alloc (.cells #[.int .i64 0, .int .i64 0] 26)).cell? ⟨w.heap.size, 1, none⟩ = some (.int .i64 s) := (hbx.below b2).cell
  generalize hasB L p s = r at *
  generalize (rowOf L p s).k = k at *
  generalize (rowOf L p s).z = z at *
  have B1 := Lib.hid b1
  have HR := Lib.hid hrs
  clear h hbx b1 b2 HL hrs
  go_enter Try.func11, Try.ntmps11
  go_wp2_with fail
  clear hw1
  go_region
  all_goals
    obtain ⟨W2, hW2⟩ : ∃ W2, (w1.alloc (.cells #[.int .i64 k, .int .i64 z] 26)).drew = W2 := ⟨_, rfl⟩
    have b3 : Below w1.heap.size w1 W2 := by rw [← hW2]; exact (up_alloc (Below.refl _ _) _).drew
    have r1 : Blk W2 (w.heap.size + 1) [.int .i64 0, .int .i64 0] 26 := HR.out.below b3
    have r2 : Blk W2 w1.heap.size [.int .i64 k, .int .i64 z] 26 := by rw [← hW2]; exact Blk.new w1 [.int .i64 k, .int .i64 z] 26
    have e1 : W2.cell? ⟨w.heap.size + 1, 0, none⟩ = some (.int .i64 0) := r1.cell
    have e2 : W2.cell? ⟨w.heap.size + 1, 1, none⟩ = some (.int .i64 0) := r1.cell
    have e3 := r1.frozen 0
    have e4 := r1.frozen 1
    have e5 : W2.cell? ⟨w1.heap.size, 0, none⟩ = some (.int .i64 k) := r2.cell
    have e6 : W2.cell? ⟨w1.heap.size, 1, none⟩ = some (.int .i64 z) := r2.cell
    have B3 := Lib.hid (up_trans B1.out b3)
    rw [hW2]
    have R1 := Lib.hid r1
    clear hW2 b3 r1 r2 l1 l2 d1 d2 d3 c1 c2 c3
    go_wp2_with fail
    have g := (R1.out.set (i := 0) (.int .i64 k)).set (i := 1) (.int .i64 z)
    have g0 : ((W2.setCell ⟨w.heap.size + 1, 0, none⟩ (.int .i64 k)).setCell ⟨w.heap.size + 1, 1, none⟩ (.int .i64 z)).cell? ⟨w.heap.size + 1, 0, none⟩ = some (.int .i64 k) := g.cell
    have g1 : ((W2.setCell ⟨w.heap.size + 1, 0, none⟩ (.int .i64 k)).setCell ⟨w.heap.size + 1, 1, none⟩ (.int .i64 z)).cell? ⟨w.heap.size + 1, 1, none⟩ = some (.int .i64 z) := g.cell
    exact bodyPost_ret (v := .tuple #[pv k z, .bool r]) (by simp [results, Try.results11, go_sem, g0, g1]) rfl ⟨rfl, grown_new (grown_new B3.out (grown_set ..) (by omega)) (grown_set ..) (by omega)⟩
set_option maxHeartbeats 1000000 in
theorem count_any {q b : Nat} {L : List Tr} {w : World} (h : Tg w q b L) : Calls Try.prog 17 #[.pointer (some ⟨q, 0, none⟩)] w fun e w' => e = .returned (.int .i64 L.length) ∧ w = w' := by
  have c1 := h.cell
  have l1 := fun ty => h.mp.len ty
  generalize (L.length : Int) = n at *
  clear h
  go_enter Try.func17, Try.ntmps17
  go_wp2_with fail
  go_ret
  exact ⟨rfl, rfl⟩
set_option maxHeartbeats 1000000 in
theorem new_any (w : World) : Calls Try.prog 8 #[] w fun e w' => e = .returned (.pointer (some ⟨w.heap.size + 1, 0, none⟩)) ∧ Tg w' (w.heap.size + 1) w.heap.size [] ∧ Below w.heap.size w w' ∧ w'.heap.size = w.heap.size + 2 := by
  have HB : Hid (Below w.heap.size w ((w.alloc (.map #[] 0)).alloc (.cells #[.map (some w.heap.size)] 66))) := up_alloc (up_alloc (Below.refl _ _) _) _
  have HT : Hid (Tg ((w.alloc (.map #[] 0)).alloc (.cells #[.map (some w.heap.size)] 66)) (w.heap.size + 1) w.heap.size []) := by
    refine ⟨?_, (Mp.made w).below (up_alloc (Below.refl _ _) _), Wf.nil⟩
    have := Blk.new (w.alloc (.map #[] 0)) [.map (some w.heap.size)] 66
    rwa [World.size_alloc] at this
  have hmm := @run_makeMap Try.prog
  go_enter Try.func8, Try.ntmps8
  go_wp2_with fail
  go_ret
  exact ⟨by simp, HT.out, HB.out, by simp⟩
/-- A call that writes: nothing but the map has changed. -/
def Wrote (q b : Nat) (L' : List Tr) (w w' : World) : Prop := Tg w' q b L' ∧ w.grownBy w' (some b)
theorem wrote_up {q b : Nat} {L : List Tr} {w w1 w2 : World} (h : Below w.heap.size w w1) (h2 : Wrote q b L w1 w2) : Wrote q b L w w2 := ⟨h2.1, grown_trans (grown_below h) h2.2⟩
theorem put_no1 {L : List Tr} {r : Tr} (h : plB r.p r.s = false) : putE L r = 11 ∧ putL L r = L := by unfold putE putL Tr.ok; simp [h]
theorem put_no2 {L : List Tr} {r : Tr} (h : tgB r.k r.z = false) : putE L r = 11 ∧ putL L r = L := by unfold putE putL Tr.ok; simp [h]
theorem put_no3 {L : List Tr} {r : Tr} (ho : r.ok = true) (h : hasB L r.p r.s = true) : putE L r = 15 ∧ putL L r = L := by unfold putE putL; simp [h, ho]
theorem put_yes {L : List Tr} {r : Tr} (ho : r.ok = true) (h : hasB L r.p r.s = false) : putE L r = 0 ∧ putL L r = ins r L := by unfold putE putL; simp [h, ho]
theorem Tg.turned {w w' : World} {q b : Nat} {L L' : List Tr} (h : Tg w q b L) (hm : Mp w' b L') (hw : Wf L') (hg : w.grownBy w' (some b)) : Tg w' q b L' :=
  ⟨h.blk.of (hg.block q h.blk.lt (fun e => h.ne (Option.some.inj e))), hm, hw⟩
set_option maxHeartbeats 2000000 in
theorem put_any {q b : Nat} {L : List Tr} {w : World} (h : Tg w q b L) (r : Tr) :
    Calls Try.prog 22 #[.pointer (some ⟨q, 0, none⟩), pv r.p r.s, pv r.k r.z] w fun e w' => e = .returned (.int .i64 (putE L r)) ∧ Wrote q b (putL L r) w w' := by
  obtain ⟨p, s, k, z⟩ := r
  obtain ⟨w1, hw1⟩ : ∃ w1, (w.alloc (.cells #[.int .i64 p, .int .i64 s] 24)).alloc (.cells #[.int .i64 k, .int .i64 z] 26) = w1 := ⟨_, rfl⟩
  have b1 : Below w.heap.size w w1 := by rw [← hw1]; exact up_alloc (up_alloc (Below.refl _ _) _) _
  have hb1 : Blk w1 w.heap.size [.int .i64 p, .int .i64 s] 24 := by rw [← hw1]; exact (Blk.new w [.int .i64 p, .int .i64 s] 24).below (up_alloc (Below.refl _ _) _)
  have hb2 : Blk w1 (w.heap.size + 1) [.int .i64 k, .int .i64 z] 26 := by rw [← hw1]; have := Blk.new (w.alloc (.cells #[.int .i64 p, .int .i64 s] 24)) [.int .i64 k, .int .i64 z] 26; rwa [World.size_alloc] at this
  have H1 := Lib.hid (h.below b1)
  have B1 := Lib.hid b1
  have X1 := Lib.hid hb1
  have X2 := Lib.hid hb2
  have c2 : w1.cell? ⟨w.heap.size, 0, none⟩ = some (.int .i64 p) := hb1.cell
  have c3 : w1.cell? ⟨w.heap.size, 1, none⟩ = some (.int .i64 s) := hb1.cell
  have HP := Lib.hid (fun W => place_any p s W)
  have HT := Lib.hid (fun W => tag_any k z W)
  obtain ⟨E, hE⟩ : ∃ E, putE L ⟨p, s, k, z⟩ = E := ⟨_, rfl⟩
  obtain ⟨L', hL'⟩ : ∃ L', putL L ⟨p, s, k, z⟩ = L' := ⟨_, rfl⟩
  have HE : Hid (putE L ⟨p, s, k, z⟩ = E ∧ putL L ⟨p, s, k, z⟩ = L') := ⟨hE, hL'⟩
  simp only [hE, hL']
  clear h b1 hb1 hb2 hE hL'
  go_enter Try.func22, Try.ntmps22
  go_wp2_with fail
  clear hw1
  refine (HP.out w1).mono ?_
  rintro e w2 ⟨rfl, b2⟩
  have H2 := Lib.hid (H1.out.below b2)
  have B2 := Lib.hid (up_trans B1.out b2)
  have Y1 := Lib.hid (X1.out.below b2)
  have Y2 := Lib.hid (X2.out.below b2)
  have c4 : w2.cell? ⟨w.heap.size + 1, 0, none⟩ = some (.int .i64 k) := Y2.out.cell
  have c5 : w2.cell? ⟨w.heap.size + 1, 1, none⟩ = some (.int .i64 z) := Y2.out.cell
  clear b2 c2 c3 H1 B1 X1 X2 HP
  cases h1 : plB p s with
  | false =>
    obtain ⟨e1, e2⟩ := put_no1 (L := L) (r := ⟨p, s, k, z⟩) h1
    obtain rfl : E = 11 := HE.out.1.symm.trans e1
    obtain rfl : L' = L := HE.out.2.symm.trans e2
    clear e1 e2
    go_wp2_with fail
    go_ret
    exact ⟨rfl, H2.out, grown_below B2.out⟩
  | true =>
    go_wp2_with fail
    refine (HT.out w2).mono ?_
    rintro e w3 ⟨rfl, b3⟩
    have H3 := Lib.hid (H2.out.below b3)
    have B3 := Lib.hid (up_trans B2.out b3)
    have Z1 := Lib.hid (Y1.out.below b3)
    have Z2 := Lib.hid (Y2.out.below b3)
    have c6 : w3.cell? ⟨w.heap.size, 0, none⟩ = some (.int .i64 p) := Z1.out.cell
    have c7 : w3.cell? ⟨w.heap.size, 1, none⟩ = some (.int .i64 s) := Z1.out.cell
    clear b3 c4 c5 H2 B2 Y1 Y2 HT
    cases h2 : tgB k z with
    | false =>
      obtain ⟨e1, e2⟩ := put_no2 (L := L) (r := ⟨p, s, k, z⟩) h2
      obtain rfl : E = 11 := HE.out.1.symm.trans e1
      obtain rfl : L' = L := HE.out.2.symm.trans e2
      clear e1 e2
      go_wp2_with fail
      go_ret
      exact ⟨rfl, H3.out, grown_below B3.out⟩
    | true =>
      have hok : (⟨p, s, k, z⟩ : Tr).ok = true := by unfold Tr.ok; simp [h1, h2]
      have HH := Lib.hid (has_any H3.out (p := p) (s := s) (Tr.ok_p hok) (Tr.ok_s hok))
      have HO := Lib.hid hok
      clear hok
      go_wp2_with fail
      refine HH.out.mono ?_
      rintro e w4 ⟨rfl, b4⟩
      have H4 := Lib.hid (H3.out.below b4)
      have B4 := Lib.hid (up_trans B3.out b4)
      have V1 := Lib.hid (Z1.out.below b4)
      have V2 := Lib.hid (Z2.out.below b4)
      clear b4 c6 c7 H3 B3 Z1 Z2 HH
      cases h3 : hasB L p s with
      | true =>
        obtain ⟨e1, e2⟩ := put_no3 (L := L) HO.out h3
        obtain rfl : E = 15 := HE.out.1.symm.trans e1
        obtain rfl : L' = L := HE.out.2.symm.trans e2
        clear e1 e2
        go_wp2_with fail
        go_ret
        exact ⟨rfl, H4.out, grown_below B4.out⟩
      | false =>
        obtain ⟨e1, e2⟩ := put_yes (L := L) HO.out h3
        obtain rfl : E = 0 := HE.out.1.symm.trans e1
        have HE2 : Hid (L' = ins ⟨p, s, k, z⟩ L) := HE.out.2.symm.trans e2
        obtain ⟨w5, hrun, m5, g5⟩ := Mp.put (w := w4.drew) (H4.out.mp.below ((Below.refl _ _).drew)) H4.out.wf HO.out h3
        have M5 := Lib.hid m5
        have G5 := Lib.hid (grown_trans (grown_below ((Below.refl _ _).drew)) g5)
        have c1 := H4.out.cell
        have k1 : w4.cell? ⟨w.heap.size, 0, none⟩ = some (.int .i64 p) := V1.out.cell
        have k2 : w4.cell? ⟨w.heap.size, 1, none⟩ = some (.int .i64 s) := V1.out.cell
        have k3 : w4.cell? ⟨w.heap.size + 1, 0, none⟩ = some (.int .i64 k) := V2.out.cell
        have k4 : w4.cell? ⟨w.heap.size + 1, 1, none⟩ = some (.int .i64 z) := V2.out.cell
        clear m5 g5 e1 e2
        go_wp2_with fail
        go_region
        all_goals
          go_wp2_with fail
          go_ret
          rw [HE2.out]
          exact ⟨rfl, H4.out.turned M5.out (H4.out.wf.ins HO.out h3) G5.out, grown_trans (grown_below B4.out) G5.out⟩
set_option maxHeartbeats 2000000 in
theorem drop_any {q b : Nat} {L : List Tr} {w : World} (h : Tg w q b L) {p s : Int} (hp : I64 p) (hs : I64 s) :
    Calls Try.prog 24 #[.pointer (some ⟨q, 0, none⟩), pv p s] w fun e w' => e = .returned (.tuple #[pv (rowOf L p s).k (rowOf L p s).z, .int .i64 (dropE L p s)]) ∧ Wrote q b (del L p s) w w' := by
  obtain ⟨w1, hw1⟩ : ∃ w1, (w.alloc (.cells #[.int .i64 p, .int .i64 s] 24)).alloc (.cells #[.int .i64 0, .int .i64 0] 26) = w1 := ⟨_, rfl⟩
  have b1 : Below w.heap.size w w1 := by rw [← hw1]; exact up_alloc (up_alloc (Below.refl _ _) _) _
  have hbx : Blk w1 w.heap.size [.int .i64 p, .int .i64 s] 24 := by rw [← hw1]; exact (Blk.new w [.int .i64 p, .int .i64 s] 24).below (up_alloc (Below.refl _ _) _)
  have hrs : Blk w1 (w.heap.size + 1) [.int .i64 0, .int .i64 0] 26 := by rw [← hw1]; have := Blk.new (w.alloc (.cells #[.int .i64 p, .int .i64 s] 24)) [.int .i64 0, .int .i64 0] 26; rwa [World.size_alloc] at this
  have H1 := Lib.hid (h.below b1)
  have c1 := H1.out.cell
  have c2 : w1.cell? ⟨w.heap.size, 0, none⟩ = some (.int .i64 p) := hbx.cell
  have c3 : w1.cell? ⟨w.heap.size, 1, none⟩ = some (.int .i64 s) := hbx.cell
  have HL : Hid (∀ W, Below w1.heap.size w1 W → (Instr.lookup 64 (.map (some b)) (pv p s) true).run Try.prog W = .ok (.tuple #[pv (rowOf L p s).k (rowOf L p s).z, .bool (hasB L p s)]) W) := fun W hW => (H1.out.below hW).mp.look hp hs
  have l1 := HL.out w1.drew ((Below.refl _ _).drew)
  have b2 : Below w1.heap.size w1 (w1.alloc (.cells #[.int .i64 0, .int .i64 0] 26)) := up_alloc (Below.refl _ _) _
  have l2 := HL.out (w1.alloc (.cells #[.int .i64 0, .int .i64 0] 26)).drew b2.drew
  have d1 := (H1.out.below b2).cell
  have d2 : (w1.alloc (.cells #[.int .i64 0, .int .i64 0] 26)).cell? ⟨w.heap.size, 0, none⟩ = some (.int .i64 p) := (hbx.below b2).cell
  have d3 : (w1.alloc (.cells #[.int .i64 0, .int .i64 0] 26)).cell? ⟨w.heap.size, 1, none⟩ = some (.int .i64 s) := (hbx.below b2).cell
  have B1 := Lib.hid b1
  have HR := Lib.hid hrs
  have HX := Lib.hid hbx
  have HPS : Hid (I64 p ∧ I64 s) := ⟨hp, hs⟩
  obtain ⟨E, hE⟩ : ∃ E, dropE L p s = E := ⟨_, rfl⟩
  have HE := Lib.hid hE
  have HN : Hid (hasB L p s = false → (rowOf L p s).k = 0 ∧ (rowOf L p s).z = 0) := fun h => by rw [rowOf_no h]; exact ⟨rfl, rfl⟩
  rw [hE]
  generalize (rowOf L p s).k = k at *
  generalize (rowOf L p s).z = z at *
  obtain ⟨r, hr⟩ : ∃ r, hasB L p s = r := ⟨_, rfl⟩
  rw [hr] at l1 l2 HN
  have HRr := Lib.hid hr
  clear h hbx b1 b2 HL hrs hp hs hE hr
  go_enter Try.func24, Try.ntmps24
  go_wp2_with fail
  clear hw1
  go_region
  all_goals
    obtain ⟨W2, hW2⟩ : ∃ W2, (w1.alloc (.cells #[.int .i64 k, .int .i64 z] 26)).drew = W2 := ⟨_, rfl⟩
    have b3 : Below w1.heap.size w1 W2 := by rw [← hW2]; exact (up_alloc (Below.refl _ _) _).drew
    have r1 : Blk W2 (w.heap.size + 1) [.int .i64 0, .int .i64 0] 26 := HR.out.below b3
    have r2 : Blk W2 w1.heap.size [.int .i64 k, .int .i64 z] 26 := by rw [← hW2]; exact Blk.new w1 [.int .i64 k, .int .i64 z] 26
    have e1 : W2.cell? ⟨w.heap.size + 1, 0, none⟩ = some (.int .i64 0) := r1.cell
    have e2 : W2.cell? ⟨w.heap.size + 1, 1, none⟩ = some (.int .i64 0) := r1.cell
    have e3 := r1.frozen 0
    have e4 := r1.frozen 1
    have B3 := Lib.hid (up_trans B1.out b3)
    have H3 := Lib.hid (H1.out.below b3)
    have HX3 := Lib.hid (HX.out.below b3)
    have hsz := B1.out.size
    rw [hW2]
    have R1 := Lib.hid r1
    have R2 := Lib.hid r2
    clear hW2 b3 r1 r2 l1 l2 d1 d2 d3 c1 c2 c3
    cases r with
    | false =>
      obtain ⟨rfl, rfl⟩ := HN.out rfl
      obtain rfl : E = 16 := by rw [← HE.out]; unfold dropE; rw [HRr.out]; rfl
      go_wp2_with fail
      have g := (R1.out.set (i := 0) (.int .i64 0)).set (i := 1) (.int .i64 0)
      have g0 : ((W2.setCell ⟨w.heap.size + 1, 0, none⟩ (.int .i64 0)).setCell ⟨w.heap.size + 1, 1, none⟩ (.int .i64 0)).cell? ⟨w.heap.size + 1, 0, none⟩ = some (.int .i64 0) := g.cell
      have g1 : ((W2.setCell ⟨w.heap.size + 1, 0, none⟩ (.int .i64 0)).setCell ⟨w.heap.size + 1, 1, none⟩ (.int .i64 0)).cell? ⟨w.heap.size + 1, 1, none⟩ = some (.int .i64 0) := g.cell
      have hB : Below w.heap.size w ((W2.setCell ⟨w.heap.size + 1, 0, none⟩ (.int .i64 0)).setCell ⟨w.heap.size + 1, 1, none⟩ (.int .i64 0)) := grown_new (grown_new B3.out (grown_set ..) (by omega)) (grown_set ..) (by omega)
      refine bodyPost_ret (v := .tuple #[pv 0 0, .int .i64 16]) (by simp [results, Try.results24, go_sem, g0, g1]) rfl ⟨rfl, ?_, grown_below hB⟩
      rw [del_not HRr.out]
      have hq : q ≠ w.heap.size + 1 := fun e => by have h1 := H3.out.blk; have h2 := R1.out; rw [e] at h1; unfold Blk at h1 h2; rw [h1] at h2; cases h2
      have hq2 : b ≠ w.heap.size + 1 := fun e => by obtain ⟨es, c, h1⟩ := H3.out.mp.obj; have h2 := R1.out; rw [e] at h1; unfold Blk at h2; rw [h1] at h2; cases h2
      have hg := grown_trans (grown_set W2 (w.heap.size + 1) 0 (.int .i64 0)) (grown_set (W2.setCell ⟨w.heap.size + 1, 0, none⟩ (.int .i64 0)) (w.heap.size + 1) 1 (.int .i64 0))
      exact H3.out.of (hg.block q H3.out.blk.lt (fun e => hq (Option.some.inj e))) (hg.block b H3.out.mp.lt (fun e => hq2 (Option.some.inj e)))
    | true =>
      obtain rfl : E = 0 := by rw [← HE.out]; unfold dropE; rw [HRr.out]; rfl
      obtain ⟨w5, hrun, m5, g5⟩ := Mp.drop (w := W2.drew) (H3.out.mp.below ((Below.refl _ _).drew)) H3.out.wf HPS.out.1 HPS.out.2 HRr.out
      have hg5 := grown_trans (grown_below ((Below.refl _ W2).drew)) g5
      have hq2 : w.heap.size + 1 ≠ b := fun e => by obtain ⟨es, c, h1⟩ := H3.out.mp.obj; have h2 := R1.out; rw [← e] at h1; unfold Blk at h2; rw [h1] at h2; cases h2
      have hq3 : w1.heap.size ≠ b := fun e => by obtain ⟨es, c, h1⟩ := H3.out.mp.obj; have h2 := R2.out; rw [← e] at h1; unfold Blk at h2; rw [h1] at h2; cases h2
      have T5 := Lib.hid (H3.out.turned m5 (H3.out.wf.del p s) hg5)
      have G5 := Lib.hid (grown_trans (grown_below B3.out) hg5)
      have R5 : Blk w5 (w.heap.size + 1) [.int .i64 0, .int .i64 0] 26 := R1.out.of (hg5.block _ R1.out.lt (fun e => hq2 (Option.some.inj e)))
      have R6 : Blk w5 w1.heap.size [.int .i64 k, .int .i64 z] 26 := R2.out.of (hg5.block _ R2.out.lt (fun e => hq3 (Option.some.inj e)))
      have c1 := H3.out.cell
      have k1 : W2.cell? ⟨w.heap.size, 0, none⟩ = some (.int .i64 p) := HX3.out.cell
      have k2 : W2.cell? ⟨w.heap.size, 1, none⟩ = some (.int .i64 s) := HX3.out.cell
      have f1 : w5.cell? ⟨w.heap.size + 1, 0, none⟩ = some (.int .i64 0) := R5.cell
      have f2 : w5.cell? ⟨w.heap.size + 1, 1, none⟩ = some (.int .i64 0) := R5.cell
      have f3 := R5.frozen 0
      have f4 := R5.frozen 1
      have f5 : w5.cell? ⟨w1.heap.size, 0, none⟩ = some (.int .i64 k) := R6.cell
      have f6 : w5.cell? ⟨w1.heap.size, 1, none⟩ = some (.int .i64 z) := R6.cell
      have R5' := Lib.hid R5
      clear m5 g5 hg5 R5 R6 hq3
      go_wp2_with fail
      go_region
      all_goals
        go_wp2_with fail
        have g := (R5'.out.set (i := 0) (.int .i64 k)).set (i := 1) (.int .i64 z)
        have g0 : ((w5.setCell ⟨w.heap.size + 1, 0, none⟩ (.int .i64 k)).setCell ⟨w.heap.size + 1, 1, none⟩ (.int .i64 z)).cell? ⟨w.heap.size + 1, 0, none⟩ = some (.int .i64 k) := g.cell
        have g1 : ((w5.setCell ⟨w.heap.size + 1, 0, none⟩ (.int .i64 k)).setCell ⟨w.heap.size + 1, 1, none⟩ (.int .i64 z)).cell? ⟨w.heap.size + 1, 1, none⟩ = some (.int .i64 z) := g.cell
        have hg := grown_trans (grown_set w5 (w.heap.size + 1) 0 (.int .i64 k)) (grown_set (w5.setCell ⟨w.heap.size + 1, 0, none⟩ (.int .i64 k)) (w.heap.size + 1) 1 (.int .i64 z))
        have hq : q ≠ w.heap.size + 1 := fun e => by have h1 := T5.out.blk; have h2 := R5'.out; rw [e] at h1; unfold Blk at h1 h2; rw [h1] at h2; cases h2
        refine bodyPost_ret (v := .tuple #[pv k z, .int .i64 0]) (by simp [results, Try.results24, go_sem, g0, g1]) rfl ⟨rfl, T5.out.of (hg.block q T5.out.blk.lt (fun e => hq (Option.some.inj e))) (hg.block b T5.out.mp.lt (fun e => hq2 (Option.some.inj e).symm)), ?_⟩
        exact ⟨hg.os.trans G5.out.os, hg.tape.trans G5.out.tape, hg.output.trans G5.out.output, Nat.le_trans G5.out.size hg.size, fun i hi hr => (hg.block i (Nat.lt_of_lt_of_le hi G5.out.size) (fun e => by have := Option.some.inj e; omega)).trans (G5.out.block i hi hr)⟩
end Go.Proofs.Ytbgacchbldgaeaa
