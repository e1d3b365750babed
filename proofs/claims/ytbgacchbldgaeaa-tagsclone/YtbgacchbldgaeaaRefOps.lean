/-
  The document's tags: what is put, dropped and moved. Contracts that the claimed proofs use.
-/
import Derived.Test.YtbgacchbldgaeaaRefPut
namespace Go.Proofs.Ytbgacchbldgaeaa
open Go.RowKit Go.Maps

/-- A call of the document's tags that writes: nothing but the struct has changed. -/
def RWrote (P : Nat) (L' : List Tr) (w w' : World) : Prop := (∃ v', Rf w' P v' L') ∧ w.grownBy w' (some P)
set_option maxHeartbeats 2000000 in
theorem rput_any {P : Nat} {v : Value} {L : List Tr} {w : World} (h : Rf w P v L) (hw : Wf L) (r : Tr) :
    Calls Try.prog 29 #[.pointer (some ⟨P, 0, none⟩), .agg #[.int .i64 r.p, .int .i64 r.s, .int .i64 r.k, .int .i64 r.z]] w fun e w' => e = .returned (.int .i64 (putE L r)) ∧ RWrote P (putL L r) w w' := by
  by_cases hyes : r.ok = true ∧ hasB L r.p r.s = false
  · obtain ⟨e1, e2⟩ := put_yes (L := L) hyes.1 hyes.2
    rw [e1, e2]
    exact (rput_yes h hw r hyes.1 hyes.2).mono fun e w' ⟨h1, h2, h3⟩ => ⟨h1, h2, h3⟩
  · obtain ⟨w1, hw1⟩ : ∃ w1, w.alloc (.cells #[.int .i64 r.p, .int .i64 r.s, .int .i64 r.k, .int .i64 r.z] 44) = w1 := ⟨_, rfl⟩
    have b1 : Below w.heap.size w w1 := by rw [← hw1]; exact up_alloc (Below.refl _ _) _
    have hbx : Blk w1 w.heap.size (row4 r) 44 := by rw [← hw1]; exact Blk.new w (row4 r) 44
    have HPl := Lib.hid (fun W => rplace_any r.p r.s W)
    have HTg := Lib.hid (fun W => rtag_any r.k r.z W)
    have HFi := Lib.hid (find_any (h.below b1) hw.len r.p r.s)
    have HF : Hid (RWrote P L w w1) := ⟨⟨_, h.below b1⟩, grown_below b1⟩
    have HNo := Lib.hid hyes
    have H1 := Lib.hid (put_no1 (L := L) (r := r))
    have H2 := Lib.hid (put_no2 (L := L) (r := r))
    have H3 := Lib.hid (put_no3 (L := L) (r := r))
    obtain ⟨E, hE⟩ : ∃ E, putE L r = E := ⟨_, rfl⟩
    obtain ⟨L', hL'⟩ : ∃ L', putL L r = L' := ⟨_, rfl⟩
    rw [hE, hL'] at H1 H2 H3
    rw [hE, hL']
    have HOk := Lib.hid (Tr.ok_iff (r := r))
    obtain ⟨rp, rs, rk, rz⟩ := r
    have x0 : w1.cell? ⟨w.heap.size, 0, none⟩ = some (.int .i64 rp) := hbx.cell
    have x1 : w1.cell? ⟨w.heap.size, 1, none⟩ = some (.int .i64 rs) := hbx.cell
    have x2 : w1.cell? ⟨w.heap.size, 2, none⟩ = some (.int .i64 rk) := hbx.cell
    have x3 : w1.cell? ⟨w.heap.size, 3, none⟩ = some (.int .i64 rz) := hbx.cell
    simp only [] at HPl HTg HFi H1 H2 H3 HOk HNo hw1
    clear h hbx b1 hyes hE hL'
    cases e1 : plB rp rs with
    | false =>
      obtain ⟨rfl, rfl⟩ := H1.out e1
      go_enter Try.func29, Try.ntmps29
      go_wp2_with (first
        | (go_at_call 25; refine (HPl.out _).mono ?_; rintro e w' ⟨rfl, rfl⟩; rw [e1]))
      go_ret
      exact ⟨rfl, HF.out⟩
    | true =>
      cases e2 : tgB rk rz with
      | false =>
        obtain ⟨rfl, rfl⟩ := H2.out e2
        go_enter Try.func29, Try.ntmps29
        go_wp2_with (first
          | (go_at_call 25; refine (HPl.out _).mono ?_; rintro e w' ⟨rfl, rfl⟩; rw [e1])
          | (go_at_call 26; refine (HTg.out _).mono ?_; rintro e w' ⟨rfl, rfl⟩; rw [e2]))
        go_ret
        exact ⟨rfl, HF.out⟩
      | true =>
        have hok := HOk.out.2 ⟨e1, e2⟩
        have hh : hasB L rp rs = true := by
          cases hc : hasB L rp rs with
          | true => rfl
          | false => exact (HNo.out ⟨hok, hc⟩).elim
        have hfi : fiI L rp rs = (fi L rp rs : Int) := by unfold fiI; rw [hh]; rfl
        rw [hfi] at HFi
        generalize fi L rp rs = F at HFi
        obtain ⟨rfl, rfl⟩ := H3.out hok hh
        clear hok hh hfi
        go_enter Try.func29, Try.ntmps29
        go_wp2_with (first
          | (go_at_call 25; refine (HPl.out _).mono ?_; rintro e w' ⟨rfl, rfl⟩; rw [e1])
          | (go_at_call 26; refine (HTg.out _).mono ?_; rintro e w' ⟨rfl, rfl⟩; rw [e2])
          | (go_at_call 12; refine HFi.out.mono ?_; rintro e w' ⟨rfl, rfl⟩))
        go_ret
        exact ⟨rfl, HF.out⟩
theorem flat4_take : ∀ (L : List Tr) (n : Nat), flat4 (L.take n) = (flat4 L).take (n * 4)
  | [], n => by simp [flat4]
  | a :: L, 0 => by simp [flat4]
  | a :: L, n + 1 => by
    have e : flat4 (a :: L) = row4 a ++ flat4 L := rfl
    have e2 : flat4 ((a :: L).take (n + 1)) = row4 a ++ flat4 (L.take n) := rfl
    have e4 : (row4 a).length = 4 := rfl
    rw [e, e2, flat4_take L n, List.take_append, e4, List.take_of_length_le (l := row4 a) (by rw [e4]; omega), show (n + 1) * 4 - 4 = n * 4 by omega]
theorem flat4_drop : ∀ (L : List Tr) (n : Nat), flat4 (L.drop n) = (flat4 L).drop (n * 4)
  | [], n => by simp [flat4]
  | a :: L, 0 => by simp
  | a :: L, n + 1 => by
    have e : flat4 (a :: L) = row4 a ++ flat4 L := rfl
    have e4 : (row4 a).length = 4 := rfl
    rw [e, List.drop_succ_cons, flat4_drop L n, List.drop_append, e4, (List.drop_eq_nil_of_le (by rw [e4]; omega) : (row4 a).drop ((n + 1) * 4) = []), List.nil_append, show (n + 1) * 4 - 4 = n * 4 by omega]
theorem flat4_one (L : List Tr) : ∀ u ∈ flat4 L, u.oneCell' = true := by
  intro u hu
  obtain ⟨r, _, hr⟩ := List.mem_flatMap.1 hu
  simp only [row4, List.mem_cons, List.not_mem_nil, or_false] at hr
  rcases hr with rfl | rfl | rfl | rfl <;> rfl
/-- Rows of another list are appended. -/
theorem app_rows {W : World} {base k m c o g : Nat} {v : Value} {xs ys : List Tr} {ops : Array Oper} {rest : List Oper} {op : Oper} {a : Act} {Q : Exit → Act → World → Prop} (hgd : op.guard = none) (s x : Operand)
    (ho : op.op = .call { callee := .builtin .append, args := #[s, x], argTypes := #[31, 31] }) (hs : a.eval s = v) (hown : W.ownsRow base 44 4 v k (flat4 xs))
    (hx : a.eval x = .slice (some ⟨g, o, none⟩) m c) (hm : ys.length = m) (hn : ∀ j u, (flat4 ys)[j]? = some u → W.cell? ⟨g, o + j, none⟩ = some u) (hk : k + m ≤ 1048576) (hbase : base ≤ W.heap.size)
    (h : ∀ v' w', Hid (w'.ownsRow base 44 4 v' (k + m) (flat4 (xs ++ ys))) → Hid (W.grownBy w' v.ownBlock) →
      wpList Try.prog ops Q rest (a.put op.dst v') w') : wpList Try.prog ops Q (op :: rest) a W := by
  obtain ⟨i, z, hi, hz, hs1, hb1, hzs⟩ := el44.info
  refine wpList_append_own_at W hgd s x 31 ho base 44 i z 4 32 el44.u hi hz hs1 hb1 hzs (by omega) v k _ hs hown ⟨g, o, none⟩ m c (flat4 ys) hx (by rw [flat4_len, hm]) (fun j u hu => ?_) (flat4_one ys) (by simp only [maxLen]; omega) (by omega) hbase ?_
  · have e : (⟨g, o, none⟩ : Addr).add j = ⟨g, o + j, none⟩ := by unfold Addr.add; split <;> simp_all
    rw [e]; exact hn j u hu
  · intro v' w' h2 h3 _ _
    refine h v' w' ?_ h3
    show World.ownsRow _ _ _ _ _ _ _
    rw [flat4_app]; exact h2
/-- Four cells of a block are written. -/
theorem set4 {W : World} {g : Nat} {a b c d a' b' c' d' : Value} {t : TypeId} (h : Blk W g [a, b, c, d] t) :
    Blk ((((W.setCell ⟨g, 0, none⟩ a').setCell ⟨g, 1, none⟩ b').setCell ⟨g, 2, none⟩ c').setCell ⟨g, 3, none⟩ d') g [a', b', c', d'] t ∧ W.grownBy ((((W.setCell ⟨g, 0, none⟩ a').setCell ⟨g, 1, none⟩ b').setCell ⟨g, 2, none⟩ c').setCell ⟨g, 3, none⟩ d') (some g) :=
  ⟨(((h.set (i := 0) a').set (i := 1) b').set (i := 2) c').set (i := 3) d', grown_trans (grown_trans (grown_trans (grown_set ..) (grown_set ..)) (grown_set ..)) (grown_set ..)⟩
theorem Rf.grown {w w' : World} {P g : Nat} {v : Value} {L : List Tr} (h : Rf w P v L) (hg : w.grownBy w' (some g)) (h1 : P ≠ g) (h2 : ∀ j, v.ownBlock = some j → j ≠ g) : Rf w' P v L :=
  ⟨h.blk.of (hg.block P h.blk.lt (fun e => h1 (Option.some.inj e))), own_of h.own (fun j hj => hg.block j (h.own.lt j hj).2 (fun e => h2 j hj (Option.some.inj e)))⟩
theorem rows_take {w : World} {g cap n : Nat} {L : List Tr} (h : w.ownsRow 0 44 4 (.slice (some ⟨g, 0, none⟩) n cap) n (flat4 L)) (F : Nat) : ∀ j u, (flat4 (L.take F))[j]? = some u → w.cell? ⟨g, 0 + j, none⟩ = some u := by
  intro j u hu
  rw [flat4_take, List.getElem?_take] at hu
  split at hu
  · rw [Nat.zero_add, h.cellAt j (by rw [← h.1]; exact (List.getElem?_eq_some_iff.1 hu).1), hu]
  · cases hu
theorem rows_drop {w : World} {g cap n : Nat} {L : List Tr} (h : w.ownsRow 0 44 4 (.slice (some ⟨g, 0, none⟩) n cap) n (flat4 L)) (F o : Nat) (ho : o = F * 4) : ∀ j u, (flat4 (L.drop F))[j]? = some u → w.cell? ⟨g, o + j, none⟩ = some u := by
  intro j u hu
  subst ho
  rw [flat4_drop, List.getElem?_drop] at hu
  rw [h.cellAt (F * 4 + j) (by rw [← h.1]; exact (List.getElem?_eq_some_iff.1 hu).1), hu]
set_option maxRecDepth 100000 in
set_option maxHeartbeats 4000000 in
theorem rdrop_any {P : Nat} {v : Value} {L : List Tr} {w : World} (h : Rf w P v L) (hw : Wf L) (p s : Int) :
    Calls Try.prog 30 #[.pointer (some ⟨P, 0, none⟩), .int .i64 p, .int .i64 s] w fun e w' => (∃ a b, e = .returned (.tuple #[.agg #[.int .i64 a, .int .i64 b, .int .i64 (rowOf L p s).k, .int .i64 (rowOf L p s).z], .int .i64 (dropE L p s)])) ∧ RWrote P (del L p s) w w' := by
  have hl := hw.len
  obtain ⟨w1, hw1⟩ : ∃ w1, w.alloc (.cells #[.int .i64 0, .int .i64 0, .int .i64 0, .int .i64 0] 44) = w1 := ⟨_, rfl⟩
  have b1 : Below w.heap.size w w1 := by rw [← hw1]; exact up_alloc (Below.refl _ _) _
  have hbx : Blk w1 w.heap.size [.int .i64 0, .int .i64 0, .int .i64 0, .int .i64 0] 44 := by rw [← hw1]; exact Blk.new w _ 44
  have h1 := h.below b1
  have HFi := Lib.hid (find_any h1 hl p s)
  have hPw : P < w.heap.size := h.blk.lt
  have HOw : Hid (∀ j, v.ownBlock = some j → j < w.heap.size) := fun j hj => (h.own.lt j hj).2
  cases hh : hasB L p s with
  | false =>
    have hfi : fiI L p s = -1 := by unfold fiI; rw [hh]; rfl
    have hE : dropE L p s = 16 := by unfold dropE; rw [hh]; rfl
    have HD : Hid (del L p s = L) := del_not hh
    have HR : Hid (Rf w1 P v L ∧ Below w.heap.size w w1 ∧ Blk w1 w.heap.size [.int .i64 0, .int .i64 0, .int .i64 0, .int .i64 0] 44) := ⟨h1, b1, hbx⟩
    rw [hfi] at HFi
    rw [hE, rowOf_no hh]
    have x0 : w1.cell? ⟨w.heap.size, 0, none⟩ = some (.int .i64 0) := hbx.cell
    have x1 : w1.cell? ⟨w.heap.size, 1, none⟩ = some (.int .i64 0) := hbx.cell
    have x2 : w1.cell? ⟨w.heap.size, 2, none⟩ = some (.int .i64 0) := hbx.cell
    have x3 : w1.cell? ⟨w.heap.size, 3, none⟩ = some (.int .i64 0) := hbx.cell
    have f0 := hbx.frozen 0
    have f1 := hbx.frozen 1
    have f2 := hbx.frozen 2
    have f3 := hbx.frozen 3
    clear h h1 hw hh hfi hE b1 hbx
    go_enter Try.func30, Try.ntmps30
    go_wp2_with (first
      | (go_at_call 12; refine HFi.out.mono ?_; rintro e w' ⟨rfl, rfl⟩))
    obtain ⟨g, gg⟩ := set4 (a' := .int .i64 0) (b' := .int .i64 0) (c' := .int .i64 0) (d' := .int .i64 0) HR.out.2.2
    have g0 := g.cell (i := 0)
    have g1 := g.cell (i := 1)
    have g2 := g.cell (i := 2)
    have g3 := g.cell (i := 3)
    simp only [List.getElem?_cons_zero, List.getElem?_cons_succ] at g0 g1 g2 g3
    refine bodyPost_ret (v := .tuple #[.agg #[.int .i64 0, .int .i64 0, .int .i64 0, .int .i64 0], .int .i64 16]) (by simp [results, Try.results30, go_sem, g0, g1, g2, g3]) rfl ⟨⟨0, 0, rfl⟩, ?_⟩
    rw [HD.out]
    exact ⟨⟨v, HR.out.1.grown gg (by omega) (fun j hj => by have := HOw.out j hj; omega)⟩, grown_below (grown_new HR.out.2.1 gg (Nat.le_refl _))⟩
  | true =>
    have hfl := fi_has.1 hh
    have hfi : fiI L p s = (fi L p s : Int) := by unfold fiI; rw [hh]; rfl
    have hE : dropE L p s = 0 := by unfold dropE; rw [hh]; rfl
    rw [hfi] at HFi
    rw [hE]
    have HDel := Lib.hid (fi_del hw hfl)
    have hrow := fi_row hw hfl
    obtain ⟨F, hF⟩ : ∃ F, fi L p s = F := ⟨_, rfl⟩
    rw [hF] at HFi HDel hfl
    simp only [hF] at hrow
    obtain ⟨g, cap, rfl⟩ : ∃ g cap, v = .slice (some ⟨g, 0, none⟩) L.length cap := by
      obtain ⟨n, hn⟩ : ∃ n, L.length = n + 1 := ⟨L.length - 1, by omega⟩
      have := h.own; rw [hn] at this ⊢; exact own_some this
    have hcap : L.length ≤ cap := by
      rcases h.own.2 with ⟨e, _⟩ | ⟨g2, cap2, cur, e, _, _, hc, _⟩
      · cases e
      · cases e; exact hc
    have HR1 := Lib.hid h1
    obtain ⟨b, o, eA, _, q0, q1, q2, q3⟩ := (h1.at rfl).row hfl
    cases eA
    rw [hrow] at q0 q1 q2 q3
    rw [← hrow]
    rw [hrow]
    have c0 := h1.cell
    obtain ⟨N, hN⟩ : ∃ N, L.length = N := ⟨_, rfl⟩
    have HN := Lib.hid hN
    rw [hN] at c0 hcap hfl hl
    obtain ⟨x, hx⟩ : ∃ x, rowOf L p s = x := ⟨_, rfl⟩
    rw [hx] at q0 q1 q2 q3
    rw [hx]
    obtain ⟨xp, xs, xk, xz⟩ := x
    simp only [Nat.zero_add] at q0 q1 q2 q3
    have j1 : (0 : Int) ≤ (F : Int) := by omega
    have j2 : (F : Int) < (N : Int) := by omega
    have HB1 := Lib.hid b1
    have HX := Lib.hid hbx
    have hd0 : decide ((F : Int) < 0) = false := by simp
    obtain ⟨w2, hw2⟩ : ∃ w2, (w1.alloc (.cells #[.int .i64 xp, .int .i64 xs, .int .i64 xk, .int .i64 xz] 44)).alloc (.cells #[] 44) = w2 := ⟨_, rfl⟩
    have b2 : Below w1.heap.size w1 w2 := by rw [← hw2]; exact up_alloc (up_alloc (Below.refl _ _) _) _
    have y2 : Blk w2 w1.heap.size [.int .i64 xp, .int .i64 xs, .int .i64 xk, .int .i64 xz] 44 := by rw [← hw2]; exact (Blk.new w1 [.int .i64 xp, .int .i64 xs, .int .i64 xk, .int .i64 xz] 44).below (up_alloc (Below.refl _ _) _)
    have HOut : Hid (w2.ownsRow (w1.heap.size + 1) 44 4 (.slice (some ⟨w1.heap.size + 1, 0, none⟩) 0 0) 0 (flat4 [])) := by
      rw [← hw2]
      have := World.ownsRow_made (base := w1.heap.size + 1) (e := 44) (size := 4) (w1.alloc (.cells #[.int .i64 xp, .int .i64 xs, .int .i64 xk, .int .i64 xz] 44)) #[] 0 (by rw [World.size_alloc]; omega) (by decide) rfl
      rw [World.size_alloc] at this
      exact this
    have hR2 := h1.below b2
    have HR2 : Hid (Rf w2 P (.slice (some ⟨g, 0, none⟩) N cap) L ∧ w2.ownsRow 0 44 4 (.slice (some ⟨g, 0, none⟩) N cap) N (flat4 L)) := by
      have h2 := hR2
      rw [hN] at h2
      refine ⟨h2, ?_⟩
      have := h2.own
      rwa [hN] at this
    have c2 := HR2.out.1.cell
    have HB2 := Lib.hid (up_trans b1 b2)
    have HX2 := Lib.hid (hbx.below b2)
    have HY2 := Lib.hid y2
    have hs2 : w1.heap.size + 1 < w2.heap.size := by rw [← hw2]; simp
    have hgw : g < w.heap.size := HOw.out g rfl
    have hw1s : w.heap.size < w1.heap.size := hbx.lt
    have HLen : Hid ((L.take F).length = F ∧ (L.drop (F + 1)).length = N - (F + 1)) := by
      refine ⟨?_, ?_⟩
      · rw [List.length_take, hN]; omega
      · rw [List.length_drop, hN]
    have hoB : ∀ j, (Value.slice (some ⟨w1.heap.size + 1, 0, none⟩) 0 0).ownBlock = some j → j = w1.heap.size + 1 := fun j hj => by cases hj; rfl
    have hgB : ∀ j, (Value.slice (some ⟨g, 0, none⟩) N cap).ownBlock = some j → j = g := fun j hj => by cases hj; rfl
    have hwr := i64_in ((F : Int) + 1) (by omega) (by omega)
    have j3 : ((F : Int) + 1).toNat = F + 1 := by omega
    have j4 : (0 : Int) ≤ (F : Int) + 1 := by omega
    have j5 : (F : Int) + 1 ≤ (N : Int) := by omega
    have j6 : (F : Int) ≤ (cap : Int) := by omega
    have j7 : (N : Int) ≤ (cap : Int) := by omega
    clear h h1 hw hh hfi hE b1 hbx hrow hx hF hN hR2 b2 y2 HOw
    have HC : Hid (cap = F + 1 → F + 1 = N) := fun hc => by omega
    by_cases hc : cap = F + 1
    · subst hc
      obtain rfl : N = F + 1 := by omega
      go_enter Try.func30, Try.ntmps30
      go_wp2_with (first
        | (go_at_call 12; refine HFi.out.mono ?_; rintro e w' ⟨rfl, rfl⟩)
        | (at_builtin; refine app_rows (ys := L.drop (F + 1)) rfl _ _ rfl rfl ho3.out rfl (by rw [HLen.out.2]; omega) (fun j u hu => by rw [List.drop_eq_nil_of_le (by rw [HN.out]; omega)] at hu; simp [flat4] at hu) (by omega) (by omega) ?_; intro v5 w5 ho5 hg5; have hr5 : Rf w5 P (.slice (some ⟨g, 0, none⟩) (F + 1) (F + 1)) L := ⟨HR3.out.blk.of (hg5.out.block P (by omega) (fun e => by have := hn3 _ e.symm; omega)), own_of HR3.out.own (fun j hj => hg5.out.block j (HR3.out.own.lt j hj).2 (fun e => by have := hn3 _ e.symm; have := hgB _ hj; omega))⟩; have c5 := hr5.cell; have fz := hr5.blk.frozen 0; have HR5 := Lib.hid hr5; have hx5 : Blk w5 w.heap.size [.int .i64 0, .int .i64 0, .int .i64 0, .int .i64 0] 44 := HX3.out.of (hg5.out.block _ HX3.out.lt (fun e => by have := hn3 _ e.symm; omega)); have hy5 : Blk w5 w1.heap.size [.int .i64 xp, .int .i64 xs, .int .i64 xk, .int .i64 xz] 44 := HY3.out.of (hg5.out.block _ HY3.out.lt (fun e => by have := hn3 _ e.symm; omega)); have ho6 : Hid (w5.ownsRow (w1.heap.size + 1) 44 4 v5 (F) (flat4 (L.take F ++ L.drop (F + 1)))) := (by have := ho5.out; rw [Nat.zero_add, Nat.add_zero, List.nil_append] at this; exact this); obtain ⟨A5, cc5, rfl⟩ := own_form ho6.out; obtain ⟨w6, hw6⟩ : ∃ w6, w5.setCell ⟨P, 0, none⟩ (.slice A5 (F) cc5) = w6 := ⟨_, rfl⟩; have hx6 : Blk w6 w.heap.size [.int .i64 0, .int .i64 0, .int .i64 0, .int .i64 0] 44 := (by rw [← hw6]; exact hx5.of ((grown_set ..).block _ hx5.lt (fun e => by have := Option.some.inj e; omega))); have hy6 : Blk w6 w1.heap.size [.int .i64 xp, .int .i64 xs, .int .i64 xk, .int .i64 xz] 44 := (by rw [← hw6]; exact hy5.of ((grown_set ..).block _ hy5.lt (fun e => by have := Option.some.inj e; omega))); have HG6 : Hid (w5.grownBy w6 (some P)) := (by rw [← hw6]; exact grown_set ..); have HP6 : Hid (Blk w6 P [.slice A5 (F) cc5] 33) := (by rw [← hw6]; exact hr5.blk.set _); have m0 : w6.cell? ⟨w.heap.size, 0, none⟩ = some (.int .i64 0) := hx6.cell; have m1 : w6.cell? ⟨w.heap.size, 1, none⟩ = some (.int .i64 0) := hx6.cell; have m2 : w6.cell? ⟨w.heap.size, 2, none⟩ = some (.int .i64 0) := hx6.cell; have m3 : w6.cell? ⟨w.heap.size, 3, none⟩ = some (.int .i64 0) := hx6.cell; have p0 := hx6.frozen 0; have p1 := hx6.frozen 1; have p2 := hx6.frozen 2; have p3 := hx6.frozen 3; have k0 : w6.cell? ⟨w1.heap.size, 0, none⟩ = some (.int .i64 xp) := hy6.cell; have k1 : w6.cell? ⟨w1.heap.size, 1, none⟩ = some (.int .i64 xs) := hy6.cell; have k2 : w6.cell? ⟨w1.heap.size, 2, none⟩ = some (.int .i64 xk) := hy6.cell; have k3 : w6.cell? ⟨w1.heap.size, 3, none⟩ = some (.int .i64 xz) := hy6.cell; have HX6 := Lib.hid hx6; clear hr5 hx5 hy5 hx6 hy6)
        | (at_builtin; refine app_rows (xs := []) (ys := L.take F) rfl _ _ rfl rfl HOut.out rfl HLen.out.1 (rows_take HR2.out.2 F) (by omega) (by omega) ?_; intro v3 w3 ho3 hg3; have hn3 : ∀ j, v3.ownBlock = some j → w1.heap.size + 1 ≤ j := fun j hj => (ho3.out.lt j hj).1; have hs3 := hg3.out.size; have hr3 : Rf w3 P (.slice (some ⟨g, 0, none⟩) (F + 1) (F + 1)) L := ⟨HR2.out.1.blk.of (hg3.out.block P (by omega) (fun e => by have := hoB _ e.symm; omega)), own_of HR2.out.1.own (fun j hj => hg3.out.block j (HR2.out.1.own.lt j hj).2 (fun e => by have := hoB _ e.symm; have := hgB _ hj; omega))⟩; have HO3r : Hid (w3.ownsRow 0 44 4 (.slice (some ⟨g, 0, none⟩) (F + 1) (F + 1)) (F + 1) (flat4 L)) := own_of HR2.out.2 (fun j hj => hg3.out.block j (HR2.out.2.lt j hj).2 (fun e => by have := hoB _ e.symm; have := hgB _ hj; omega)); have c3 := hr3.cell; have HR3 := Lib.hid hr3; have HX3 : Hid (Blk w3 w.heap.size [.int .i64 0, .int .i64 0, .int .i64 0, .int .i64 0] 44) := HX2.out.of (hg3.out.block _ HX2.out.lt (fun e => by have := hoB _ e.symm; omega)); have HY3 : Hid (Blk w3 w1.heap.size [.int .i64 xp, .int .i64 xs, .int .i64 xk, .int .i64 xz] 44) := HY2.out.of (hg3.out.block _ HY2.out.lt (fun e => by have := hoB _ e.symm; omega)); clear hr3)
        | go_in)
      obtain ⟨gb, gg⟩ := set4 (a' := .int .i64 xp) (b' := .int .i64 xs) (c' := .int .i64 xk) (d' := .int .i64 xz) HX6.out
      have g0 := gb.cell (i := 0)
      have g1 := gb.cell (i := 1)
      have g2 := gb.cell (i := 2)
      have g3 := gb.cell (i := 3)
      simp only [List.getElem?_cons_zero, List.getElem?_cons_succ] at g0 g1 g2 g3
      have G23 : w2.grownBy w3 (some (w1.heap.size + 1)) := hg3.out
      have hb3 : Below w.heap.size w w3 := grown_new HB2.out G23 (by omega)
      have hb5 : Below w.heap.size w w5 := hb3.grown hg5.out hb3.size (fun j hj => by have := hn3 j hj; omega)
      have gfin := grown_trans (grown_below (r := some P) hb5) HG6.out
      refine bodyPost_ret (v := .tuple #[.agg #[.int .i64 xp, .int .i64 xs, .int .i64 xk, .int .i64 xz], .int .i64 0]) (by simp [results, Try.results30, go_sem, g0, g1, g2, g3]) rfl ⟨⟨xp, xs, rfl⟩, ⟨_, ⟨HP6.out.of (gg.block P HP6.out.lt (fun e => by have := Option.some.inj e; omega)), ?_⟩⟩, ?_⟩
      · rw [← HDel.out]
        have hlen : (L.take F ++ L.drop (F + 1)).length = F := by rw [List.length_append, HLen.out.1, HLen.out.2]; omega
        rw [hlen]
        have h6 := ho6.out.kept HG6.out (.inr (fun e => by have := (ho6.out.lt _ e).1; omega))
        exact own_down (h6.kept gg (.inr (fun e => by have := (h6.lt _ e).1; omega))) (Nat.zero_le _)
      · exact ⟨gg.os.trans gfin.os, gg.tape.trans gfin.tape, gg.output.trans gfin.output, Nat.le_trans gfin.size gg.size, fun i hi hr => (gg.block i (Nat.lt_of_lt_of_le hi gfin.size) (fun e => by have := Option.some.inj e; omega)).trans (gfin.block i hi hr)⟩
    · skip
      go_enter Try.func30, Try.ntmps30
      go_wp2_with (first
        | (go_at_call 12; refine HFi.out.mono ?_; rintro e w' ⟨rfl, rfl⟩)
        | (at_builtin; refine app_rows (ys := L.drop (F + 1)) rfl _ _ rfl rfl ho3.out rfl HLen.out.2 (rows_drop HO3r.out (F + 1) _ rfl) (by omega) (by omega) ?_; intro v5 w5 ho5 hg5; have hr5 : Rf w5 P (.slice (some ⟨g, 0, none⟩) N cap) L := ⟨HR3.out.blk.of (hg5.out.block P (by omega) (fun e => by have := hn3 _ e.symm; omega)), own_of HR3.out.own (fun j hj => hg5.out.block j (HR3.out.own.lt j hj).2 (fun e => by have := hn3 _ e.symm; have := hgB _ hj; omega))⟩; have c5 := hr5.cell; have fz := hr5.blk.frozen 0; have HR5 := Lib.hid hr5; have hx5 : Blk w5 w.heap.size [.int .i64 0, .int .i64 0, .int .i64 0, .int .i64 0] 44 := HX3.out.of (hg5.out.block _ HX3.out.lt (fun e => by have := hn3 _ e.symm; omega)); have hy5 : Blk w5 w1.heap.size [.int .i64 xp, .int .i64 xs, .int .i64 xk, .int .i64 xz] 44 := HY3.out.of (hg5.out.block _ HY3.out.lt (fun e => by have := hn3 _ e.symm; omega)); have ho6 : Hid (w5.ownsRow (w1.heap.size + 1) 44 4 v5 (F + (N - (F + 1))) (flat4 (L.take F ++ L.drop (F + 1)))) := (by have := ho5.out; rw [Nat.zero_add, List.nil_append] at this; exact this); obtain ⟨A5, cc5, rfl⟩ := own_form ho6.out; obtain ⟨w6, hw6⟩ : ∃ w6, w5.setCell ⟨P, 0, none⟩ (.slice A5 (F + (N - (F + 1))) cc5) = w6 := ⟨_, rfl⟩; have hx6 : Blk w6 w.heap.size [.int .i64 0, .int .i64 0, .int .i64 0, .int .i64 0] 44 := (by rw [← hw6]; exact hx5.of ((grown_set ..).block _ hx5.lt (fun e => by have := Option.some.inj e; omega))); have hy6 : Blk w6 w1.heap.size [.int .i64 xp, .int .i64 xs, .int .i64 xk, .int .i64 xz] 44 := (by rw [← hw6]; exact hy5.of ((grown_set ..).block _ hy5.lt (fun e => by have := Option.some.inj e; omega))); have HG6 : Hid (w5.grownBy w6 (some P)) := (by rw [← hw6]; exact grown_set ..); have HP6 : Hid (Blk w6 P [.slice A5 (F + (N - (F + 1))) cc5] 33) := (by rw [← hw6]; exact hr5.blk.set _); have m0 : w6.cell? ⟨w.heap.size, 0, none⟩ = some (.int .i64 0) := hx6.cell; have m1 : w6.cell? ⟨w.heap.size, 1, none⟩ = some (.int .i64 0) := hx6.cell; have m2 : w6.cell? ⟨w.heap.size, 2, none⟩ = some (.int .i64 0) := hx6.cell; have m3 : w6.cell? ⟨w.heap.size, 3, none⟩ = some (.int .i64 0) := hx6.cell; have p0 := hx6.frozen 0; have p1 := hx6.frozen 1; have p2 := hx6.frozen 2; have p3 := hx6.frozen 3; have k0 : w6.cell? ⟨w1.heap.size, 0, none⟩ = some (.int .i64 xp) := hy6.cell; have k1 : w6.cell? ⟨w1.heap.size, 1, none⟩ = some (.int .i64 xs) := hy6.cell; have k2 : w6.cell? ⟨w1.heap.size, 2, none⟩ = some (.int .i64 xk) := hy6.cell; have k3 : w6.cell? ⟨w1.heap.size, 3, none⟩ = some (.int .i64 xz) := hy6.cell; have HX6 := Lib.hid hx6; clear hr5 hx5 hy5 hx6 hy6)
        | (at_builtin; refine app_rows (xs := []) (ys := L.take F) rfl _ _ rfl rfl HOut.out rfl HLen.out.1 (rows_take HR2.out.2 F) (by omega) (by omega) ?_; intro v3 w3 ho3 hg3; have hn3 : ∀ j, v3.ownBlock = some j → w1.heap.size + 1 ≤ j := fun j hj => (ho3.out.lt j hj).1; have hs3 := hg3.out.size; have hr3 : Rf w3 P (.slice (some ⟨g, 0, none⟩) N cap) L := ⟨HR2.out.1.blk.of (hg3.out.block P (by omega) (fun e => by have := hoB _ e.symm; omega)), own_of HR2.out.1.own (fun j hj => hg3.out.block j (HR2.out.1.own.lt j hj).2 (fun e => by have := hoB _ e.symm; have := hgB _ hj; omega))⟩; have HO3r : Hid (w3.ownsRow 0 44 4 (.slice (some ⟨g, 0, none⟩) N cap) N (flat4 L)) := own_of HR2.out.2 (fun j hj => hg3.out.block j (HR2.out.2.lt j hj).2 (fun e => by have := hoB _ e.symm; have := hgB _ hj; omega)); have c3 := hr3.cell; have HR3 := Lib.hid hr3; have HX3 : Hid (Blk w3 w.heap.size [.int .i64 0, .int .i64 0, .int .i64 0, .int .i64 0] 44) := HX2.out.of (hg3.out.block _ HX2.out.lt (fun e => by have := hoB _ e.symm; omega)); have HY3 : Hid (Blk w3 w1.heap.size [.int .i64 xp, .int .i64 xs, .int .i64 xk, .int .i64 xz] 44) := HY2.out.of (hg3.out.block _ HY2.out.lt (fun e => by have := hoB _ e.symm; omega)); clear hr3)
        | go_in)
      obtain ⟨gb, gg⟩ := set4 (a' := .int .i64 xp) (b' := .int .i64 xs) (c' := .int .i64 xk) (d' := .int .i64 xz) HX6.out
      have g0 := gb.cell (i := 0)
      have g1 := gb.cell (i := 1)
      have g2 := gb.cell (i := 2)
      have g3 := gb.cell (i := 3)
      simp only [List.getElem?_cons_zero, List.getElem?_cons_succ] at g0 g1 g2 g3
      have G23 : w2.grownBy w3 (some (w1.heap.size + 1)) := hg3.out
      have hb3 : Below w.heap.size w w3 := grown_new HB2.out G23 (by omega)
      have hb5 : Below w.heap.size w w5 := hb3.grown hg5.out hb3.size (fun j hj => by have := hn3 j hj; omega)
      have gfin := grown_trans (grown_below (r := some P) hb5) HG6.out
      refine bodyPost_ret (v := .tuple #[.agg #[.int .i64 xp, .int .i64 xs, .int .i64 xk, .int .i64 xz], .int .i64 0]) (by simp [results, Try.results30, go_sem, g0, g1, g2, g3]) rfl ⟨⟨xp, xs, rfl⟩, ⟨_, ⟨HP6.out.of (gg.block P HP6.out.lt (fun e => by have := Option.some.inj e; omega)), ?_⟩⟩, ?_⟩
      · rw [← HDel.out]
        have hlen : (L.take F ++ L.drop (F + 1)).length = F + (N - (F + 1)) := by rw [List.length_append, HLen.out.1, HLen.out.2]
        rw [hlen]
        have h6 := ho6.out.kept HG6.out (.inr (fun e => by have := (ho6.out.lt _ e).1; omega))
        exact own_down (h6.kept gg (.inr (fun e => by have := (h6.lt _ e).1; omega))) (Nat.zero_le _)
      · exact ⟨gg.os.trans gfin.os, gg.tape.trans gfin.tape, gg.output.trans gfin.output, Nat.le_trans gfin.size gg.size, fun i hi hr => (gg.block i (Nat.lt_of_lt_of_le hi gfin.size) (fun e => by have := Option.some.inj e; omega)).trans (gfin.block i hi hr)⟩
end Go.Proofs.Ytbgacchbldgaeaa
