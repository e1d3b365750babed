/-
  A tag is moved: a contract that the claimed proofs use.
-/
import Derived.Test.YtbgacchbldgaeaaSmall
namespace Go.Proofs.Ytbgacchbldgaeaa
open Go.RowKit Go.Maps

theorem eq24 (w : World) (a b c d : Int) : (Op.equalIn 10000 24 (pv a b) (pv c d)).run Try.prog w = .ok (a == c && b == d) w := by
  have u3 := Try.underlying3
  have a3 := Try.isAgg3
  have z3 := Try.sizeOf3
  have hS : Try.prog.underlying 24 = some (.struct (Try.prog.fieldsOf 24)) := by kernel_rfl
  have hp : Try.prog.stoodInHeld 24 = false := by kernel_rfl
  rw [show (10000 : Nat) = 9999 + 1 from rfl, run_equalIn_agg w 9999 24 _ _ hS hp]
  simp only [Program.fieldsOf, Try.underlying24]
  go_simp
  by_cases h1 : a = c <;> by_cases h2 : b = d <;> simp [h1, h2]
theorem eq26 (w : World) (a b c d : Int) : (Op.equalIn 10000 26 (pv a b) (pv c d)).run Try.prog w = .ok (a == c && b == d) w := by
  have u3 := Try.underlying3
  have a3 := Try.isAgg3
  have z3 := Try.sizeOf3
  have hS : Try.prog.underlying 26 = some (.struct (Try.prog.fieldsOf 26)) := by kernel_rfl
  have hp : Try.prog.stoodInHeld 26 = false := by kernel_rfl
  rw [show (10000 : Nat) = 9999 + 1 from rfl, run_equalIn_agg w 9999 26 _ _ hS hp]
  simp only [Program.fieldsOf, Try.underlying26]
  go_simp
  by_cases h1 : a = c <;> by_cases h2 : b = d <;> simp [h1, h2]
theorem eq44 (w : World) (a b c d a' b' c' d' : Int) : (Op.equalIn 10000 44 (.agg #[.int .i64 a, .int .i64 b, .int .i64 c, .int .i64 d]) (.agg #[.int .i64 a', .int .i64 b', .int .i64 c', .int .i64 d'])).run Try.prog w = .ok (a == a' && (b == b' && (c == c' && d == d'))) w := by
  have u3 := Try.underlying3
  have a3 := Try.isAgg3
  have z3 := Try.sizeOf3
  have hS : Try.prog.underlying 44 = some (.struct (Try.prog.fieldsOf 44)) := by kernel_rfl
  have hp : Try.prog.stoodInHeld 44 = false := by kernel_rfl
  rw [show (10000 : Nat) = 9999 + 1 from rfl, run_equalIn_agg w 9999 44 _ _ hS hp]
  simp only [Program.fieldsOf, Try.underlying44]
  go_simp
  by_cases h1 : a = a' <;> by_cases h2 : b = b' <;> by_cases h3 : c = c' <;> by_cases h4 : d = d' <;> simp [h1, h2, h3, h4]
theorem mov_no1 {L : List Tr} {p s : Int} {r : Tr} (h : plB r.p r.s = false) : movE L p s r = 11 ∧ movL L p s r = L := by unfold movE movL Tr.ok; simp [h]
theorem mov_no2 {L : List Tr} {p s : Int} {r : Tr} (h : tgB r.k r.z = false) : movE L p s r = 11 ∧ movL L p s r = L := by unfold movE movL Tr.ok; simp [h]
theorem mov_no3 {L : List Tr} {p s : Int} {r : Tr} (ho : r.ok = true) (h : hasB L p s = false) : movE L p s r = 16 ∧ movL L p s r = L := by unfold movE movL; simp [h, ho]
theorem mov_no4 {L : List Tr} {p s : Int} {r : Tr} (ho : r.ok = true) (h : hasB L p s = true) (hc : ((!(r.p == p && r.s == s)) && hasB L r.p r.s) = true) : movE L p s r = 15 ∧ movL L p s r = L := by unfold movE movL; rw [if_pos ho, if_pos h, if_pos hc, if_pos ho, if_pos h, if_pos hc]; exact ⟨rfl, rfl⟩
theorem mov_yes {L : List Tr} {p s : Int} {r : Tr} (ho : r.ok = true) (h : hasB L p s = true) (hc : ((!(r.p == p && r.s == s)) && hasB L r.p r.s) = false) : movE L p s r = 0 ∧ movL L p s r = ins r (del L p s) := by
  have hc' : ¬ ((!(r.p == p && r.s == s)) && hasB L r.p r.s) = true := by rw [hc]; simp
  unfold movE movL; rw [if_pos ho, if_pos h, if_neg hc', if_pos ho, if_pos h, if_neg hc']; exact ⟨rfl, rfl⟩
/-- Three boxes that Move makes. -/
structure Bx3 (w W : World) (p s P S k z : Int) : Prop where
  a : Blk W w.heap.size [.int .i64 p, .int .i64 s] 24
  b : Blk W (w.heap.size + 1) [.int .i64 P, .int .i64 S] 24
  c : Blk W (w.heap.size + 1 + 1) [.int .i64 k, .int .i64 z] 26
theorem Bx3.below {w W W' : World} {p s P S k z : Int} (h : Bx3 w W p s P S k z) (hb : Below W.heap.size W W') : Bx3 w W' p s P S k z := ⟨h.a.below hb, h.b.below hb, h.c.below hb⟩
theorem Bx3.grown {w W W' : World} {p s P S k z : Int} {b : Nat} {L : List Tr} (h : Bx3 w W p s P S k z) (hg : W.grownBy W' (some b)) (hm : Mp W b L) : Bx3 w W' p s P S k z := by
  obtain ⟨es, c, ho⟩ := hm.obj
  have ne : ∀ {g : Nat} {vs : List Value} {t : TypeId}, Blk W g vs t → some g ≠ some b := fun hb e => by
    cases e; unfold Blk at hb; rw [ho] at hb; cases hb
  exact ⟨h.a.of (hg.block _ h.a.lt (ne h.a)), h.b.of (hg.block _ h.b.lt (ne h.b)), h.c.of (hg.block _ h.c.lt (ne h.c))⟩
theorem Bx3.made (w : World) (p s P S k z : Int) : Bx3 w (((w.alloc (.cells #[.int .i64 p, .int .i64 s] 24)).alloc (.cells #[.int .i64 P, .int .i64 S] 24)).alloc (.cells #[.int .i64 k, .int .i64 z] 26)) p s P S k z := by
  refine ⟨((Blk.new w [.int .i64 p, .int .i64 s] 24).below (up_alloc (Below.refl _ _) _)).below (up_alloc (Below.refl _ _) _), ?_, ?_⟩
  · have := (Blk.new (w.alloc (.cells #[.int .i64 p, .int .i64 s] 24)) [.int .i64 P, .int .i64 S] 24).below (up_alloc (Below.refl _ _) (.cells #[.int .i64 k, .int .i64 z] 26))
    rwa [World.size_alloc] at this
  · have := Blk.new ((w.alloc (.cells #[.int .i64 p, .int .i64 s] 24)).alloc (.cells #[.int .i64 P, .int .i64 S] 24)) [.int .i64 k, .int .i64 z] 26
    rwa [World.size_alloc, World.size_alloc] at this
set_option maxRecDepth 100000 in
set_option maxHeartbeats 4000000 in
theorem move_eq {q b : Nat} {L : List Tr} {w : World} (h : Tg w q b L) {p s : Int} (hp : I64 p) (hs : I64 s) {k z : Int} :
    Calls Try.prog 23 #[.pointer (some ⟨q, 0, none⟩), pv p s, pv p s, pv k z] w fun e w' => e = .returned (.int .i64 (movE L p s ⟨p, s, k, z⟩)) ∧ Wrote q b (movL L p s ⟨p, s, k, z⟩) w w' := by
  have h4 : Hid ((p == p && s == s) = true) := by show _ = _; simp
  obtain ⟨w1, hw1⟩ : ∃ w1, ((w.alloc (.cells #[.int .i64 p, .int .i64 s] 24)).alloc (.cells #[.int .i64 p, .int .i64 s] 24)).alloc (.cells #[.int .i64 k, .int .i64 z] 26) = w1 := ⟨_, rfl⟩
  have b1 : Below w.heap.size w w1 := by rw [← hw1]; exact up_alloc (up_alloc (up_alloc (Below.refl _ _) _) _) _
  have X1 : Hid (Bx3 w w1 p s p s k z) := by rw [← hw1]; exact Bx3.made w p s p s k z
  have H1 := Lib.hid (h.below b1)
  have B1 := Lib.hid b1
  have c0 : w1.cell? ⟨w.heap.size + 1, 0, none⟩ = some (.int .i64 p) := X1.out.b.cell
  have c1 : w1.cell? ⟨w.heap.size + 1, 1, none⟩ = some (.int .i64 s) := X1.out.b.cell
  have HP := Lib.hid (fun W => place_any p s W)
  have HT := Lib.hid (fun W => tag_any k z W)
  have HPS : Hid (I64 p ∧ I64 s) := ⟨hp, hs⟩
  obtain ⟨E, hE⟩ : ∃ E, movE L p s ⟨p, s, k, z⟩ = E := ⟨_, rfl⟩
  obtain ⟨L', hL'⟩ : ∃ L', movL L p s ⟨p, s, k, z⟩ = L' := ⟨_, rfl⟩
  have HE : Hid (movE L p s ⟨p, s, k, z⟩ = E ∧ movL L p s ⟨p, s, k, z⟩ = L') := ⟨hE, hL'⟩
  simp only [hE, hL']
  clear h b1 hE hL' hp hs
  go_enter Try.func23, Try.ntmps23
  go_wp2_with fail
  clear hw1
  refine (HP.out w1).mono ?_
  rintro e w2 ⟨rfl, b2⟩
  have H2 := Lib.hid (H1.out.below b2)
  have B2 := Lib.hid (up_trans B1.out b2)
  have X2 := Lib.hid (X1.out.below b2)
  have c2 : w2.cell? ⟨w.heap.size + 1 + 1, 0, none⟩ = some (.int .i64 k) := X2.out.c.cell
  have c3 : w2.cell? ⟨w.heap.size + 1 + 1, 1, none⟩ = some (.int .i64 z) := X2.out.c.cell
  clear b2 c0 c1 H1 B1 X1 HP
  cases h1 : plB p s with
  | false =>
    obtain ⟨e1, e2⟩ := mov_no1 (L := L) (p := p) (s := s) (r := ⟨p, s, k, z⟩) h1
    obtain rfl : E = 11 := HE.out.1.symm.trans e1
    obtain rfl : L' = L := HE.out.2.symm.trans e2
    clear e1 e2
    go_wp2_with fail
    go_ret
    exact ⟨rfl, H2.out, grown_below B2.out⟩
  | true =>
    go_wp2_with fail
    refine (HT.out w2).mono ?_
    rintro e w3 ⟨rfl, b3⟩
    have H3 := Lib.hid (H2.out.below b3)
    have B3 := Lib.hid (up_trans B2.out b3)
    have X3 := Lib.hid (X2.out.below b3)
    have c4 : w3.cell? ⟨w.heap.size, 0, none⟩ = some (.int .i64 p) := X3.out.a.cell
    have c5 : w3.cell? ⟨w.heap.size, 1, none⟩ = some (.int .i64 s) := X3.out.a.cell
    clear b3 c2 c3 H2 B2 X2 HT
    cases h2 : tgB k z with
    | false =>
      obtain ⟨e1, e2⟩ := mov_no2 (L := L) (p := p) (s := s) (r := ⟨p, s, k, z⟩) h2
      obtain rfl : E = 11 := HE.out.1.symm.trans e1
      obtain rfl : L' = L := HE.out.2.symm.trans e2
      clear e1 e2
      go_wp2_with fail
      go_ret
      exact ⟨rfl, H3.out, grown_below B3.out⟩
    | true =>
      have HO : Hid ((⟨p, s, k, z⟩ : Tr).ok = true) := by show _ = _; unfold Tr.ok; simp [h1, h2]
      have HH := Lib.hid (has_any H3.out HPS.out.1 HPS.out.2)
      go_wp2_with fail
      refine HH.out.mono ?_
      rintro e w4 ⟨rfl, b4⟩
      have H4 := Lib.hid (H3.out.below b4)
      have B4 := Lib.hid (up_trans B3.out b4)
      have X4 := Lib.hid (X3.out.below b4)
      have c6 : w4.cell? ⟨w.heap.size, 0, none⟩ = some (.int .i64 p) := X4.out.a.cell
      have c7 : w4.cell? ⟨w.heap.size, 1, none⟩ = some (.int .i64 s) := X4.out.a.cell
      have c8 : w4.cell? ⟨w.heap.size + 1, 0, none⟩ = some (.int .i64 p) := X4.out.b.cell
      have c9 : w4.cell? ⟨w.heap.size + 1, 1, none⟩ = some (.int .i64 s) := X4.out.b.cell
      clear b4 c4 c5 H3 B3 X3 HH
      cases h3 : hasB L p s with
      | false =>
        obtain ⟨e1, e2⟩ := mov_no3 (L := L) HO.out h3
        obtain rfl : E = 16 := HE.out.1.symm.trans e1
        obtain rfl : L' = L := HE.out.2.symm.trans e2
        clear e1 e2
        go_wp2_with fail
        go_ret
        exact ⟨rfl, H4.out, grown_below B4.out⟩
      | true =>
        have main : ∀ (w5 : World), Below w4.heap.size w4 w5 → Hid (((!(p == p && s == s)) && hasB L p s) = false → ∃ w6 w7, (∀ ty, (Builtin.delete_ #[64, 24] ty #[.map (some b), pv p s]).run Try.prog w5.drew = .ok (.tuple #[]) w6) ∧ (Instr.mapUpdate 64 (.map (some b)) (pv p s) (pv k z)).run Try.prog w6.drew = .ok () w7 ∧ Tg w6 q b (del L p s) ∧ Bx3 w w6 p s p s k z ∧ Tg w7 q b (ins ⟨p, s, k, z⟩ (del L p s)) ∧ w.grownBy w7 (some b)) := fun w5 b5 hfree => by
          have T5 := H4.out.below b5
          have X5 := X4.out.below b5
          obtain ⟨w6, r6, m6, g6⟩ := Mp.drop (w := w5.drew) (T5.mp.below ((Below.refl _ _).drew)) T5.wf HPS.out.1 HPS.out.2 h3
          have G6 := grown_trans (grown_below ((Below.refl _ w5).drew)) g6
          have T6 := T5.turned m6 (T5.wf.del p s) G6
          obtain ⟨w7, r7, m7, g7⟩ := Mp.put (w := w6.drew) (T6.mp.below ((Below.refl _ _).drew)) T6.wf HO.out (mov_free hfree)
          have G7 := grown_trans (grown_below ((Below.refl _ w6).drew)) g7
          exact ⟨w6, w7, r6, r7, T6, X5.grown G6 T5.mp, T6.turned m7 (T6.wf.ins HO.out (mov_free hfree)) G7, grown_trans (grown_trans (grown_below (up_trans B4.out b5)) G6) G7⟩
        have hc : ((!(p == p && s == s)) && hasB L p s) = false := by rw [h4.out]; rfl
        obtain ⟨w6, w7, r6, r7, T6, X6, T7, G7⟩ := (main w4 (Below.refl _ _)).out hc
        obtain ⟨e1, e2⟩ := mov_yes (L := L) HO.out h3 hc
        obtain rfl : E = 0 := HE.out.1.symm.trans e1
        have HE2 : Hid (L' = ins ⟨p, s, k, z⟩ (del L p s)) := HE.out.2.symm.trans e2
        have d1 := H4.out.cell
        have d2 := T6.cell
        have d3 : w6.cell? ⟨w.heap.size + 1, 0, none⟩ = some (.int .i64 p) := X6.b.cell
        have d4 : w6.cell? ⟨w.heap.size + 1, 1, none⟩ = some (.int .i64 s) := X6.b.cell
        have d5 : w6.cell? ⟨w.heap.size + 1 + 1, 0, none⟩ = some (.int .i64 k) := X6.c.cell
        have d6 : w6.cell? ⟨w.heap.size + 1 + 1, 1, none⟩ = some (.int .i64 z) := X6.c.cell
        have HT7 := Lib.hid T7
        have HG7 := Lib.hid G7
        clear hc e1 e2 T6 X6 T7 G7 main
        go_wp2_with fail
        go_region
        all_goals
          go_wp2_with fail
          go_region
          all_goals
            go_wp2_with fail
            go_ret
            rw [HE2.out]
            exact ⟨rfl, HT7.out, HG7.out⟩
set_option maxRecDepth 100000 in
set_option maxHeartbeats 4000000 in
theorem move_ne1 {q b : Nat} {L : List Tr} {w : World} (h : Tg w q b L) {p s : Int} (hp : I64 p) (hs : I64 s) {P S k z : Int} (hn : P ≠ p) :
    Calls Try.prog 23 #[.pointer (some ⟨q, 0, none⟩), pv p s, pv P S, pv k z] w fun e w' => e = .returned (.int .i64 (movE L p s ⟨P, S, k, z⟩)) ∧ Wrote q b (movL L p s ⟨P, S, k, z⟩) w w' := by
  have h4 : Hid ((P == p && S == s) = false) := by show _ = _; simp [hn]
  have d0 : (P == p) = false := by simpa using hn
  obtain ⟨w1, hw1⟩ : ∃ w1, ((w.alloc (.cells #[.int .i64 p, .int .i64 s] 24)).alloc (.cells #[.int .i64 P, .int .i64 S] 24)).alloc (.cells #[.int .i64 k, .int .i64 z] 26) = w1 := ⟨_, rfl⟩
  have b1 : Below w.heap.size w w1 := by rw [← hw1]; exact up_alloc (up_alloc (up_alloc (Below.refl _ _) _) _) _
  have X1 : Hid (Bx3 w w1 p s P S k z) := by rw [← hw1]; exact Bx3.made w p s P S k z
  have H1 := Lib.hid (h.below b1)
  have B1 := Lib.hid b1
  have c0 : w1.cell? ⟨w.heap.size + 1, 0, none⟩ = some (.int .i64 P) := X1.out.b.cell
  have c1 : w1.cell? ⟨w.heap.size + 1, 1, none⟩ = some (.int .i64 S) := X1.out.b.cell
  have HP := Lib.hid (fun W => place_any P S W)
  have HT := Lib.hid (fun W => tag_any k z W)
  have HPS : Hid (I64 p ∧ I64 s) := ⟨hp, hs⟩
  obtain ⟨E, hE⟩ : ∃ E, movE L p s ⟨P, S, k, z⟩ = E := ⟨_, rfl⟩
  obtain ⟨L', hL'⟩ : ∃ L', movL L p s ⟨P, S, k, z⟩ = L' := ⟨_, rfl⟩
  have HE : Hid (movE L p s ⟨P, S, k, z⟩ = E ∧ movL L p s ⟨P, S, k, z⟩ = L') := ⟨hE, hL'⟩
  simp only [hE, hL']
  clear h b1 hE hL' hp hs
  go_enter Try.func23, Try.ntmps23
  go_wp2_with fail
  clear hw1
  refine (HP.out w1).mono ?_
  rintro e w2 ⟨rfl, b2⟩
  have H2 := Lib.hid (H1.out.below b2)
  have B2 := Lib.hid (up_trans B1.out b2)
  have X2 := Lib.hid (X1.out.below b2)
  have c2 : w2.cell? ⟨w.heap.size + 1 + 1, 0, none⟩ = some (.int .i64 k) := X2.out.c.cell
  have c3 : w2.cell? ⟨w.heap.size + 1 + 1, 1, none⟩ = some (.int .i64 z) := X2.out.c.cell
  clear b2 c0 c1 H1 B1 X1 HP
  cases h1 : plB P S with
  | false =>
    obtain ⟨e1, e2⟩ := mov_no1 (L := L) (p := p) (s := s) (r := ⟨P, S, k, z⟩) h1
    obtain rfl : E = 11 := HE.out.1.symm.trans e1
    obtain rfl : L' = L := HE.out.2.symm.trans e2
    clear e1 e2
    go_wp2_with fail
    go_ret
    exact ⟨rfl, H2.out, grown_below B2.out⟩
  | true =>
    go_wp2_with fail
    refine (HT.out w2).mono ?_
    rintro e w3 ⟨rfl, b3⟩
    have H3 := Lib.hid (H2.out.below b3)
    have B3 := Lib.hid (up_trans B2.out b3)
    have X3 := Lib.hid (X2.out.below b3)
    have c4 : w3.cell? ⟨w.heap.size, 0, none⟩ = some (.int .i64 p) := X3.out.a.cell
    have c5 : w3.cell? ⟨w.heap.size, 1, none⟩ = some (.int .i64 s) := X3.out.a.cell
    clear b3 c2 c3 H2 B2 X2 HT
    cases h2 : tgB k z with
    | false =>
      obtain ⟨e1, e2⟩ := mov_no2 (L := L) (p := p) (s := s) (r := ⟨P, S, k, z⟩) h2
      obtain rfl : E = 11 := HE.out.1.symm.trans e1
      obtain rfl : L' = L := HE.out.2.symm.trans e2
      clear e1 e2
      go_wp2_with fail
      go_ret
      exact ⟨rfl, H3.out, grown_below B3.out⟩
    | true =>
      have HO : Hid ((⟨P, S, k, z⟩ : Tr).ok = true) := by show _ = _; unfold Tr.ok; simp [h1, h2]
      have HH := Lib.hid (has_any H3.out HPS.out.1 HPS.out.2)
      go_wp2_with fail
      refine HH.out.mono ?_
      rintro e w4 ⟨rfl, b4⟩
      have H4 := Lib.hid (H3.out.below b4)
      have B4 := Lib.hid (up_trans B3.out b4)
      have X4 := Lib.hid (X3.out.below b4)
      have c6 : w4.cell? ⟨w.heap.size, 0, none⟩ = some (.int .i64 p) := X4.out.a.cell
      have c7 : w4.cell? ⟨w.heap.size, 1, none⟩ = some (.int .i64 s) := X4.out.a.cell
      have c8 : w4.cell? ⟨w.heap.size + 1, 0, none⟩ = some (.int .i64 P) := X4.out.b.cell
      have c9 : w4.cell? ⟨w.heap.size + 1, 1, none⟩ = some (.int .i64 S) := X4.out.b.cell
      clear b4 c4 c5 H3 B3 X3 HH
      cases h3 : hasB L p s with
      | false =>
        obtain ⟨e1, e2⟩ := mov_no3 (L := L) HO.out h3
        obtain rfl : E = 16 := HE.out.1.symm.trans e1
        obtain rfl : L' = L := HE.out.2.symm.trans e2
        clear e1 e2
        go_wp2_with fail
        go_ret
        exact ⟨rfl, H4.out, grown_below B4.out⟩
      | true =>
        have main : ∀ (w5 : World), Below w4.heap.size w4 w5 → Hid (((!(P == p && S == s)) && hasB L P S) = false → ∃ w6 w7, (∀ ty, (Builtin.delete_ #[64, 24] ty #[.map (some b), pv p s]).run Try.prog w5.drew = .ok (.tuple #[]) w6) ∧ (Instr.mapUpdate 64 (.map (some b)) (pv P S) (pv k z)).run Try.prog w6.drew = .ok () w7 ∧ Tg w6 q b (del L p s) ∧ Bx3 w w6 p s P S k z ∧ Tg w7 q b (ins ⟨P, S, k, z⟩ (del L p s)) ∧ w.grownBy w7 (some b)) := fun w5 b5 hfree => by
          have T5 := H4.out.below b5
          have X5 := X4.out.below b5
          obtain ⟨w6, r6, m6, g6⟩ := Mp.drop (w := w5.drew) (T5.mp.below ((Below.refl _ _).drew)) T5.wf HPS.out.1 HPS.out.2 h3
          have G6 := grown_trans (grown_below ((Below.refl _ w5).drew)) g6
          have T6 := T5.turned m6 (T5.wf.del p s) G6
          obtain ⟨w7, r7, m7, g7⟩ := Mp.put (w := w6.drew) (T6.mp.below ((Below.refl _ _).drew)) T6.wf HO.out (mov_free hfree)
          have G7 := grown_trans (grown_below ((Below.refl _ w6).drew)) g7
          exact ⟨w6, w7, r6, r7, T6, X5.grown G6 T5.mp, T6.turned m7 (T6.wf.ins HO.out (mov_free hfree)) G7, grown_trans (grown_trans (grown_below (up_trans B4.out b5)) G6) G7⟩
        have HH5 := Lib.hid (has_any H4.out (Tr.ok_p HO.out) (Tr.ok_s HO.out))
        have HMain : Hid (∀ (w5 : World), Below w4.heap.size w4 w5 → _) := main
        clear main
        go_wp2_with fail
        refine HH5.out.mono ?_
        rintro e w5 ⟨rfl, b5⟩
        have hm := HMain.out w5 b5
        have H5 := Lib.hid (H4.out.below b5)
        have B5 := Lib.hid (up_trans B4.out b5)
        have X5 := Lib.hid (X4.out.below b5)
        clear b5 HH5 c6 c7 c8 c9
        simp only [] at hm ⊢
        cases h5 : hasB L P S with
        | true =>
          obtain ⟨e1, e2⟩ := mov_no4 (L := L) (p := p) (s := s) HO.out h3 (by rw [h4.out, h5]; rfl)
          obtain rfl : E = 15 := HE.out.1.symm.trans e1
          obtain rfl : L' = L := HE.out.2.symm.trans e2
          clear e1 e2 hm HMain
          go_wp2_with fail
          go_ret
          exact ⟨rfl, H5.out, grown_below B5.out⟩
        | false =>
          have hc : ((!(P == p && S == s)) && hasB L P S) = false := by rw [h4.out, h5]; rfl
          obtain ⟨w6, w7, r6, r7, T6, X6, T7, G7⟩ := hm.out hc
          obtain ⟨e1, e2⟩ := mov_yes (L := L) HO.out h3 hc
          obtain rfl : E = 0 := HE.out.1.symm.trans e1
          have HE2 : Hid (L' = ins ⟨P, S, k, z⟩ (del L p s)) := HE.out.2.symm.trans e2
          have d1 := H5.out.cell
          have d2 := T6.cell
          have c6 : w5.cell? ⟨w.heap.size, 0, none⟩ = some (.int .i64 p) := X5.out.a.cell
          have c7 : w5.cell? ⟨w.heap.size, 1, none⟩ = some (.int .i64 s) := X5.out.a.cell
          have d3 : w6.cell? ⟨w.heap.size + 1, 0, none⟩ = some (.int .i64 P) := X6.b.cell
          have d4 : w6.cell? ⟨w.heap.size + 1, 1, none⟩ = some (.int .i64 S) := X6.b.cell
          have d5 : w6.cell? ⟨w.heap.size + 1 + 1, 0, none⟩ = some (.int .i64 k) := X6.c.cell
          have d6 : w6.cell? ⟨w.heap.size + 1 + 1, 1, none⟩ = some (.int .i64 z) := X6.c.cell
          have HT7 := Lib.hid T7
          have HG7 := Lib.hid G7
          clear hc e1 e2 T6 X6 T7 G7 hm HMain
          go_wp2_with fail
          go_region
          all_goals
            go_wp2_with fail
            go_region
            all_goals
              go_wp2_with fail
              go_ret
              rw [HE2.out]
              exact ⟨rfl, HT7.out, HG7.out⟩
set_option maxRecDepth 100000 in
set_option maxHeartbeats 4000000 in
theorem move_ne2 {q b : Nat} {L : List Tr} {w : World} (h : Tg w q b L) {p s : Int} (hp : I64 p) (hs : I64 s) {S k z : Int} (hn : S ≠ s) :
    Calls Try.prog 23 #[.pointer (some ⟨q, 0, none⟩), pv p s, pv p S, pv k z] w fun e w' => e = .returned (.int .i64 (movE L p s ⟨p, S, k, z⟩)) ∧ Wrote q b (movL L p s ⟨p, S, k, z⟩) w w' := by
  have h4 : Hid ((p == p && S == s) = false) := by show _ = _; simp [hn]
  have d0 : (S == s) = false := by simpa using hn
  obtain ⟨w1, hw1⟩ : ∃ w1, ((w.alloc (.cells #[.int .i64 p, .int .i64 s] 24)).alloc (.cells #[.int .i64 p, .int .i64 S] 24)).alloc (.cells #[.int .i64 k, .int .i64 z] 26) = w1 := ⟨_, rfl⟩
  have b1 : Below w.heap.size w w1 := by rw [← hw1]; exact up_alloc (up_alloc (up_alloc (Below.refl _ _) _) _) _
  have X1 : Hid (Bx3 w w1 p s p S k z) := by rw [← hw1]; exact Bx3.made w p s p S k z
  have H1 := Lib.hid (h.below b1)
  have B1 := Lib.hid b1
  have c0 : w1.cell? ⟨w.heap.size + 1, 0, none⟩ = some (.int .i64 p) := X1.out.b.cell
  have c1 : w1.cell? ⟨w.heap.size + 1, 1, none⟩ = some (.int .i64 S) := X1.out.b.cell
  have HP := Lib.hid (fun W => place_any p S W)
  have HT := Lib.hid (fun W => tag_any k z W)
  have HPS : Hid (I64 p ∧ I64 s) := ⟨hp, hs⟩
  obtain ⟨E, hE⟩ : ∃ E, movE L p s ⟨p, S, k, z⟩ = E := ⟨_, rfl⟩
  obtain ⟨L', hL'⟩ : ∃ L', movL L p s ⟨p, S, k, z⟩ = L' := ⟨_, rfl⟩
  have HE : Hid (movE L p s ⟨p, S, k, z⟩ = E ∧ movL L p s ⟨p, S, k, z⟩ = L') := ⟨hE, hL'⟩
  simp only [hE, hL']
  clear h b1 hE hL' hp hs
  go_enter Try.func23, Try.ntmps23
  go_wp2_with fail
  clear hw1
  refine (HP.out w1).mono ?_
  rintro e w2 ⟨rfl, b2⟩
  have H2 := Lib.hid (H1.out.below b2)
  have B2 := Lib.hid (up_trans B1.out b2)
  have X2 := Lib.hid (X1.out.below b2)
  have c2 : w2.cell? ⟨w.heap.size + 1 + 1, 0, none⟩ = some (.int .i64 k) := X2.out.c.cell
  have c3 : w2.cell? ⟨w.heap.size + 1 + 1, 1, none⟩ = some (.int .i64 z) := X2.out.c.cell
  clear b2 c0 c1 H1 B1 X1 HP
  cases h1 : plB p S with
  | false =>
    obtain ⟨e1, e2⟩ := mov_no1 (L := L) (p := p) (s := s) (r := ⟨p, S, k, z⟩) h1
    obtain rfl : E = 11 := HE.out.1.symm.trans e1
    obtain rfl : L' = L := HE.out.2.symm.trans e2
    clear e1 e2
    go_wp2_with fail
    go_ret
    exact ⟨rfl, H2.out, grown_below B2.out⟩
  | true =>
    go_wp2_with fail
    refine (HT.out w2).mono ?_
    rintro e w3 ⟨rfl, b3⟩
    have H3 := Lib.hid (H2.out.below b3)
    have B3 := Lib.hid (up_trans B2.out b3)
    have X3 := Lib.hid (X2.out.below b3)
    have c4 : w3.cell? ⟨w.heap.size, 0, none⟩ = some (.int .i64 p) := X3.out.a.cell
    have c5 : w3.cell? ⟨w.heap.size, 1, none⟩ = some (.int .i64 s) := X3.out.a.cell
    clear b3 c2 c3 H2 B2 X2 HT
    cases h2 : tgB k z with
    | false =>
      obtain ⟨e1, e2⟩ := mov_no2 (L := L) (p := p) (s := s) (r := ⟨p, S, k, z⟩) h2
      obtain rfl : E = 11 := HE.out.1.symm.trans e1
      obtain rfl : L' = L := HE.out.2.symm.trans e2
      clear e1 e2
      go_wp2_with fail
      go_ret
      exact ⟨rfl, H3.out, grown_below B3.out⟩
    | true =>
      have HO : Hid ((⟨p, S, k, z⟩ : Tr).ok = true) := by show _ = _; unfold Tr.ok; simp [h1, h2]
      have HH := Lib.hid (has_any H3.out HPS.out.1 HPS.out.2)
      go_wp2_with fail
      refine HH.out.mono ?_
      rintro e w4 ⟨rfl, b4⟩
      have H4 := Lib.hid (H3.out.below b4)
      have B4 := Lib.hid (up_trans B3.out b4)
      have X4 := Lib.hid (X3.out.below b4)
      have c6 : w4.cell? ⟨w.heap.size, 0, none⟩ = some (.int .i64 p) := X4.out.a.cell
      have c7 : w4.cell? ⟨w.heap.size, 1, none⟩ = some (.int .i64 s) := X4.out.a.cell
      have c8 : w4.cell? ⟨w.heap.size + 1, 0, none⟩ = some (.int .i64 p) := X4.out.b.cell
      have c9 : w4.cell? ⟨w.heap.size + 1, 1, none⟩ = some (.int .i64 S) := X4.out.b.cell
      clear b4 c4 c5 H3 B3 X3 HH
      cases h3 : hasB L p s with
      | false =>
        obtain ⟨e1, e2⟩ := mov_no3 (L := L) HO.out h3
        obtain rfl : E = 16 := HE.out.1.symm.trans e1
        obtain rfl : L' = L := HE.out.2.symm.trans e2
        clear e1 e2
        go_wp2_with fail
        go_ret
        exact ⟨rfl, H4.out, grown_below B4.out⟩
      | true =>
        have main : ∀ (w5 : World), Below w4.heap.size w4 w5 → Hid (((!(p == p && S == s)) && hasB L p S) = false → ∃ w6 w7, (∀ ty, (Builtin.delete_ #[64, 24] ty #[.map (some b), pv p s]).run Try.prog w5.drew = .ok (.tuple #[]) w6) ∧ (Instr.mapUpdate 64 (.map (some b)) (pv p S) (pv k z)).run Try.prog w6.drew = .ok () w7 ∧ Tg w6 q b (del L p s) ∧ Bx3 w w6 p s p S k z ∧ Tg w7 q b (ins ⟨p, S, k, z⟩ (del L p s)) ∧ w.grownBy w7 (some b)) := fun w5 b5 hfree => by
          have T5 := H4.out.below b5
          have X5 := X4.out.below b5
          obtain ⟨w6, r6, m6, g6⟩ := Mp.drop (w := w5.drew) (T5.mp.below ((Below.refl _ _).drew)) T5.wf HPS.out.1 HPS.out.2 h3
          have G6 := grown_trans (grown_below ((Below.refl _ w5).drew)) g6
          have T6 := T5.turned m6 (T5.wf.del p s) G6
          obtain ⟨w7, r7, m7, g7⟩ := Mp.put (w := w6.drew) (T6.mp.below ((Below.refl _ _).drew)) T6.wf HO.out (mov_free hfree)
          have G7 := grown_trans (grown_below ((Below.refl _ w6).drew)) g7
          exact ⟨w6, w7, r6, r7, T6, X5.grown G6 T5.mp, T6.turned m7 (T6.wf.ins HO.out (mov_free hfree)) G7, grown_trans (grown_trans (grown_below (up_trans B4.out b5)) G6) G7⟩
        have HH5 := Lib.hid (has_any H4.out (Tr.ok_p HO.out) (Tr.ok_s HO.out))
        have HMain : Hid (∀ (w5 : World), Below w4.heap.size w4 w5 → _) := main
        clear main
        go_wp2_with fail
        refine HH5.out.mono ?_
        rintro e w5 ⟨rfl, b5⟩
        have hm := HMain.out w5 b5
        have H5 := Lib.hid (H4.out.below b5)
        have B5 := Lib.hid (up_trans B4.out b5)
        have X5 := Lib.hid (X4.out.below b5)
        clear b5 HH5 c6 c7 c8 c9
        simp only [] at hm ⊢
        cases h5 : hasB L p S with
        | true =>
          obtain ⟨e1, e2⟩ := mov_no4 (L := L) (p := p) (s := s) HO.out h3 (by rw [h4.out, h5]; rfl)
          obtain rfl : E = 15 := HE.out.1.symm.trans e1
          obtain rfl : L' = L := HE.out.2.symm.trans e2
          clear e1 e2 hm HMain
          go_wp2_with fail
          go_ret
          exact ⟨rfl, H5.out, grown_below B5.out⟩
        | false =>
          have hc : ((!(p == p && S == s)) && hasB L p S) = false := by rw [h4.out, h5]; rfl
          obtain ⟨w6, w7, r6, r7, T6, X6, T7, G7⟩ := hm.out hc
          obtain ⟨e1, e2⟩ := mov_yes (L := L) HO.out h3 hc
          obtain rfl : E = 0 := HE.out.1.symm.trans e1
          have HE2 : Hid (L' = ins ⟨p, S, k, z⟩ (del L p s)) := HE.out.2.symm.trans e2
          have d1 := H5.out.cell
          have d2 := T6.cell
          have c6 : w5.cell? ⟨w.heap.size, 0, none⟩ = some (.int .i64 p) := X5.out.a.cell
          have c7 : w5.cell? ⟨w.heap.size, 1, none⟩ = some (.int .i64 s) := X5.out.a.cell
          have d3 : w6.cell? ⟨w.heap.size + 1, 0, none⟩ = some (.int .i64 p) := X6.b.cell
          have d4 : w6.cell? ⟨w.heap.size + 1, 1, none⟩ = some (.int .i64 S) := X6.b.cell
          have d5 : w6.cell? ⟨w.heap.size + 1 + 1, 0, none⟩ = some (.int .i64 k) := X6.c.cell
          have d6 : w6.cell? ⟨w.heap.size + 1 + 1, 1, none⟩ = some (.int .i64 z) := X6.c.cell
          have HT7 := Lib.hid T7
          have HG7 := Lib.hid G7
          clear hc e1 e2 T6 X6 T7 G7 hm HMain
          go_wp2_with fail
          go_region
          all_goals
            go_wp2_with fail
            go_region
            all_goals
              go_wp2_with fail
              go_ret
              rw [HE2.out]
              exact ⟨rfl, HT7.out, HG7.out⟩
theorem move_any {q b : Nat} {L : List Tr} {w : World} (h : Tg w q b L) {p s : Int} (hp : I64 p) (hs : I64 s) (r : Tr) :
    Calls Try.prog 23 #[.pointer (some ⟨q, 0, none⟩), pv p s, pv r.p r.s, pv r.k r.z] w fun e w' => e = .returned (.int .i64 (movE L p s r)) ∧ Wrote q b (movL L p s r) w w' := by
  obtain ⟨P, S, k, z⟩ := r
  by_cases h1 : P = p
  · subst h1
    by_cases h2 : S = s
    · subst h2
      exact move_eq h hp hs
    · exact move_ne2 h hp hs h2
  · exact move_ne1 h hp hs h1
end Go.Proofs.Ytbgacchbldgaeaa
