/-
  What slices.Replace does: contracts that the claimed proofs use.
-/
import Derived.Test.YtjnknnakllbaaaaGreatSpA
import Derived.StillTailTactics
namespace Go.Proofs.YtjnknnakllbaaaaGreat.Sp
set_option maxRecDepth 100000
open Go.RowKit

theorem spl12 {α : Type} (cur A B C : List α) (a b : Nat) (hA : cur.take a = A) (ha : A.length = a) (hb : B.length = b) (_hfit : a + b + C.length ≤ cur.length) :
    (splice (splice cur a B) (a + b) C).take (a + b + C.length) = A ++ (B ++ C) := by
  have e1 : splice cur a B = (A ++ B) ++ cur.drop (a + b) := by unfold splice; rw [hA, hb, List.append_assoc]
  have e2 : splice (splice cur a B) (a + b) C = (A ++ (B ++ C)) ++ (splice cur a B).drop (a + b + C.length) := by
    conv => lhs; unfold splice
    have : (splice cur a B).take (a + b) = A ++ B := by rw [e1]; exact List.take_left' (by simp; omega)
    rw [show cur.take a ++ (B ++ cur.drop (a + B.length)) = splice cur a B from rfl, this]
    simp
  rw [e2]
  exact List.take_left' (by simp; omega)
theorem spl21 {α : Type} (cur A B C : List α) (a b : Nat) (hA : cur.take a = A) (ha : A.length = a) (hb : B.length = b) (hfit : a + b + C.length ≤ cur.length) :
    (splice (splice cur (a + b) C) a B).take (a + b + C.length) = A ++ (B ++ C) := by
  have e1 : splice cur (a + b) C = cur.take (a + b) ++ (C ++ cur.drop (a + b + C.length)) := rfl
  have l1 : (cur.take (a + b)).length = a + b := by simp; omega
  have t1 : (splice cur (a + b) C).take a = A := by
    rw [e1, List.take_append_of_le_length (by omega), List.take_take, Nat.min_eq_left (by omega), hA]
  have d1 : (splice cur (a + b) C).drop (a + b) = C ++ cur.drop (a + b + C.length) := by
    rw [e1]; exact List.drop_left' l1
  have e2 : splice (splice cur (a + b) C) a B = (A ++ (B ++ C)) ++ cur.drop (a + b + C.length) := by
    conv => lhs; unfold splice
    rw [show cur.take (a + b) ++ (C ++ cur.drop (a + b + C.length)) = splice cur (a + b) C from rfl, t1, hb, d1]
    simp
  rw [e2]
  exact List.take_left' (by simp; omega)
theorem add_at (g o j : Nat) : (⟨g, o, none⟩ : Addr).add j = ⟨g, o + j, none⟩ := by unfold Addr.add; split <;> simp_all
theorem Rw.srcs {w : World} {g cap k : Nat} {L : List Rn} (h : Rw w g cap L) (hk : k ≤ L.length) : ∀ j v, (rcs (L.drop k))[j]? = some v → w.cell? ((⟨g, k * 3, none⟩ : Addr).add j) = some v := by
  intro j v hv
  rw [add_at]
  have := h.news (k * 3 + j) v (by rw [← rcs_drop L k hk, List.getElem?_drop] at hv; exact hv)
  rwa [add_at, Nat.zero_add] at this
theorem Blk.srcs {w : World} {g : Nat} {vs : List Value} {t : TypeId} (h : Blk w g vs t) : ∀ j v, vs[j]? = some v → w.cell? ((⟨g, 0, none⟩ : Addr).add j) = some v := by
  intro j v hv
  rw [add_at, Nat.zero_add, h.cell]; exact hv
theorem list_zeros {W : World} {ops : Array Oper} {rest : List Oper} {o : Oper} {a : Act} {Q : Exit → Act → World → Prop} (hgd : o.guard = none) (s x : Operand)
    (ho : o.op = .call { callee := .builtin .append, args := #[s, x], argTypes := #[110, 3] }) (g sLen sCap n cap : Nat) (L : List Rn) (hr : Rw W g cap L) (hsl : sLen ≤ L.length) (hlen : sLen + n ≤ 1048576) (h0 : 0 < n) (hg : sCap < sLen + n)
    (hs : a.eval s = .slice (some ⟨g, 0, none⟩) sLen sCap) (hx : a.eval x = .int .i64 (n : Int))
    (h : ∀ cap' w' cur', Hid (Blk w' W.heap.size cur' 107) → Hid (cur'.length = cap' * 3 ∧ sLen + n ≤ cap' ∧ cap' ≤ maxLen ∧ cur'.take (sLen * 3) = rcs (L.take sLen)) → Hid (Below W.heap.size W w') → wpList Tryz.prog ops Q rest (a.put o.dst (.slice (some ⟨W.heap.size, 0, none⟩) (sLen + n) cap')) w') : wpList Tryz.prog ops Q (o :: rest) a W := by
  obtain ⟨g', cap', w', cur', hrun, hb, rfl, h1, h2, h3, h4, hbel⟩ := run_zeros3 W o.type g sLen sCap n cap L hr hsl hlen h0 hg
  refine wpList_plain hgd fun K hK => ?_
  unfold Oper.wp execOp
  simp only [ho, resolve, invoke, builtin, Sem.run_bind, Sem.run_pure, Result.andThen_ok, List.map_toArray, List.map_cons, List.map_nil, hs, hx, hrun]
  exact hK _ _ (h cap' w' cur' hb ⟨h1, h2, h3, h4⟩ hbel)
theorem Blk.shape {w : World} {g : Nat} {vs : List Value} {t : TypeId} (h : Blk w g vs t) : w.shape? g = some (t, vs.length) := by
  unfold World.shape?; rw [show w.heap[g]? = _ from h]; simp
theorem run_over {w : World} {g v o la ca lb cb : Nat} {cur vs : List Value} (hg : Blk w g cur 107) (hv : Blk w v vs 107) (hne : g ≠ v) (hl : vs.length ≠ 0) :
    (callFunc 132 #[.slice (some ⟨g, o, none⟩) la ca, .slice (some ⟨v, 0, none⟩) lb cb]).run Tryz.prog w = .ok (.value (.bool false)) w := by
  rw [run_callFunc_extern Tryz.func132 (by kernel_rfl) (by kernel_rfl) (by kernel_rfl) (e := Extern.SlicesOverlaps.overlaps #[110, 110] #[4]) (by kernel_rfl),
    Lib.run_overlaps_apart w 110 4 107 Tryz.underlying110 3 Tryz.sizeOf107 ⟨g, o, none⟩ ⟨v, 0, none⟩ la ca lb cb hne 107 107 _ _ hg.shape hv.shape hl (hg.frozen _) (hg.frozen _)]
  rfl
/-- What is left behind it. -/
def Repl (g m : Nat) (L' : List Rn) (w : World) (e : Ending) (w' : World) : Prop := ∃ g' cap', e = .returned (.slice (some ⟨g', 0, none⟩) m cap') ∧ Rw w' g' cap' L' ∧ w.grownBy w' (some g) ∧ (g' = g ∨ w.heap.size ≤ g')
set_option maxRecDepth 100000 in
set_option maxHeartbeats 2000000 in
theorem rep_last {w : World} {g cap i v : Nat} {L V : List Rn} (hr : Rw w g cap L) (hn : L.length = i + 1) (hl : i ≤ 4096) (hv : Blk w v (rcs V) 107) (hV : V.length = 3) :
    Calls Tryz.prog 121 #[.slice (some ⟨g, 0, none⟩) (i + 1) cap, .int .i64 (i : Int), .int .i64 ((i : Int) + 1), .slice (some ⟨v, 0, none⟩) 3 3] w (Repl g (i + 3) (L.take i ++ V) w) := by
  obtain ⟨i0, hi0, hz0, hz1, hz2⟩ := info_parts run_info
  have hfit := hr.fit
  rw [hn] at hfit
  have HO := Lib.hid (hr.owns (i := i) (by omega))
  have HV := Lib.hid hv.srcs
  have H1 := Lib.hid (rcs_one V)
  have hgl := hr.lt
  have HL : Hid ((rcs V).length = 3 * 3) := by show _ = _; rw [rcs_length, hV]
  have HLL : Hid ((L.take i ++ V).length = i + 3) := by show _ = _; rw [List.length_append, hV, List.length_take]; omega
  have h1 : ((i : Int) == (i : Int) + 1) = false := by simp; omega
  clear hr hv hn hV
  go_enter Tryz.func121, Tryz.ntmps121
  go_wp2_with (at_builtin; refine wpList_append_lies _ rfl _ _ 110 rfl g 107 i0 _ 3 24 Tryz.underlying110 hi0 hz0 hz1 hz2 rfl (by omega) _ i (rcs (L.take i)) rfl HO.out ⟨v, 0, none⟩ 3 3 (rcs V) rfl HL.out HV.out H1.out (by omega) (by simp only [maxLen]; omega) (by omega) (by omega) _ rfl ?_; intro g' cap' w' h2 h3 h4 h5)
  obtain ⟨hrow, _⟩ := Rw.owned (L := L.take i ++ V) (by rw [rcs_app]; exact h2) HLL.out
  have HR := Lib.hid hrow
  have h3' : w.grownBy w' (some g) := h3
  have h4' : some g = some g' ∨ g' = w.heap.size := h4
  have HG := Lib.hid h3'
  have H4 := Lib.hid h4'
  clear h2 h3 h4 hrow h3' h4'
  go_wp2
  go_ret
  refine ⟨g', cap', rfl, HR.out, HG.out, ?_⟩
  rcases H4.out with h | h
  · left; simpa using h.symm
  · right; omega
set_option maxRecDepth 100000 in
set_option maxHeartbeats 2000000 in
theorem rep_grow {w : World} {g cap n i v : Nat} {L V : List Rn} (hr : Rw w g cap L) (hn : L.length = n) (hi : i + 1 < n) (hl : n ≤ 4096) (hc : cap < n + 2) (hv : Blk w v (rcs V) 107) (hV : V.length = 3) :
    Calls Tryz.prog 121 #[.slice (some ⟨g, 0, none⟩) n cap, .int .i64 (i : Int), .int .i64 ((i : Int) + 1), .slice (some ⟨v, 0, none⟩) 3 3] w (Repl g (n + 2) (L.take i ++ (V ++ L.drop (i + 1))) w) := by
  have hfit := hr.fit
  rw [hn] at hfit
  have HR := Lib.hid hr
  have HN := Lib.hid hn
  have HV := Lib.hid hv
  have HVL := Lib.hid hV
  have hgl := hr.lt
  have h1 : ((i : Int) == (i : Int) + 1) = false := by simp; omega
  have h2 : ((i : Int) + 1 == (n : Int)) = false := by simp; omega
  have w1 := i64_in ((i : Int) + 3) (by omega) (by omega)
  clear hr hv hn hV
  go_enter Tryz.func121, Tryz.ntmps121
  go_wp2_with fail
  go_quiet (fail)
  obtain ⟨T, hT⟩ : ∃ T, n + 2 = T := ⟨_, rfl⟩
  rw [show (i : Int) + 3 + ((n - (i + 1) : Nat) : Int) = (T : Int) by omega]
  obtain ⟨M, hM⟩ : ∃ M, T - i = M := ⟨_, rfl⟩
  have hMi : (T : Int) - (i : Int) = (M : Int) := by omega
  have hTc : (cap : Int) < (T : Int) := by omega
  have hb2 : Below w.heap.size w (w.drewN nq) := up_drew (Below.refl _ w) nq
  have HB2 := Lib.hid hb2
  have R2 := Lib.hid (HR.out.below hb2)
  have V2 := Lib.hid (HV.out.of (hb2.block _ HV.out.lt))
  generalize w.drewN nq = w2 at HB2 R2 V2
  clear hb2
  go_wp2_with (at_builtin; refine list_zeros (by rfl) _ _ (by rfl) g i cap M cap L R2.out (by rw [HN.out]; omega) (by omega) (by omega) (by omega) (by rfl) (by rfl) ?_; intro cap3 w3 cur3 B3 C3 D3; have hc3 : i + M ≤ cap3 := C3.out.2.1; have hc4 : i + 3 < cap3 := (by omega); have hc5 : i < cap3 := (by omega))
  have V3 := Lib.hid (V2.out.of (D3.out.block _ V2.out.lt))
  obtain ⟨w4, hrun, b4, g4⟩ := run_copy3 w3 3 w2.heap.size (i * 3) M (cap3 - i) ⟨v, 0, none⟩ 3 3 3 cur3 (rcs V) B3.out (by simp [Nat.min_def]; omega) (by rw [rcs_length, HVL.out]) V3.out.srcs (by rw [rcs_length, HVL.out, C3.out.1]; omega) (rcs_one V)
  rw [hrun]
  have B4 := Lib.hid b4
  have D4 := Lib.hid (grown_new D3.out g4 (Nat.le_refl _))
  have hsz := D4.out.size
  have hgl2 := R2.out.lt
  clear hrun b4 g4
  go_wp2_with fail
  have s1 : (0 : Int) ≤ (i : Int) + 3 := by omega
  have s2 : (3 : Int) ≤ (M : Int) := by omega
  have s3 : ((i : Int) + 3).toNat = i + 3 := by omega
  have s4 : cap3 ≠ i + 3 := by omega
  have s5 : (0 : Int) ≤ (i : Int) + 1 := by omega
  have s6 : (i : Int) + 1 ≤ (n : Int) := by omega
  have s7 : ((i : Int) + 1).toNat = i + 1 := by omega
  have s8 : cap ≠ i + 1 := by omega
  go_still_tail 9, (by kernel_rfl)
  change wpList _ _ _ _ _ w4.drew
  have B5 : Hid (Blk w4.drew w2.heap.size (splice cur3 (i * 3) (rcs V)) 107) := B4.out
  have D5 : Hid (Below w2.heap.size w2 w4.drew) := D4.out.drew
  generalize w4.drew = w5 at B5 D5
  clear D4 B4
  go_wp2_with fail
  obtain ⟨w6, hrun, b6, g6⟩ := run_copy3 w5 3 w2.heap.size ((i + 3) * 3) (i + M - (i + 3)) (cap3 - (i + 3)) ⟨g, (i + 1) * 3, none⟩ (n - (i + 1)) (cap - (i + 1)) (n - (i + 1)) (splice cur3 (i * 3) (rcs V)) (rcs (L.drop (i + 1))) B5.out
    (by simp [Nat.min_def]; omega) (by rw [rcs_length, List.length_drop, HN.out]) ((R2.out.below D5.out).srcs (by rw [HN.out]; omega))
    (by rw [rcs_length, List.length_drop, HN.out, length_splice _ _ _ (by rw [rcs_length, HVL.out, C3.out.1]; omega), C3.out.1]; omega) (rcs_one _)
  rw [hrun]
  have hrow : Rw w6 w2.heap.size cap3 (L.take i ++ (V ++ L.drop (i + 1))) := by
    have hll : (L.take i ++ (V ++ L.drop (i + 1))).length = n + 2 := by simp [HN.out, HVL.out]; omega
    have hl1 : (splice cur3 (i * 3) (rcs V)).length = cap3 * 3 := by rw [length_splice _ _ _ (by rw [rcs_length, HVL.out, C3.out.1]; omega), C3.out.1]
    refine ⟨_, b6, ?_, by rw [hll]; omega, C3.out.2.2.1, ?_⟩
    · rw [length_splice _ _ _ (by rw [rcs_length, List.length_drop, HN.out, hl1]; omega), hl1]
    · have := spl12 cur3 (rcs (L.take i)) (rcs V) (rcs (L.drop (i + 1))) (i * 3) 9 C3.out.2.2.2 (by rw [rcs_length]; simp [HN.out]; omega) (by rw [rcs_length, HVL.out]) (by rw [rcs_length, List.length_drop, HN.out, C3.out.1]; omega)
      rw [rcs_app, rcs_app, ← this, hll]
      congr 1
      · rw [rcs_length, List.length_drop, HN.out]; omega
      · congr 1; omega
  have HROW := Lib.hid hrow
  have D6 := Lib.hid (up_trans HB2.out (grown_new D5.out g6 (Nat.le_refl _)))
  have hsw := HB2.out.size
  clear hrun b6 g6 hrow
  go_wp2
  go_ret
  exact ⟨w2.heap.size, cap3, by rw [show n + 2 = i + M by omega]; rfl, HROW.out, grown_below D6.out, .inr hsw⟩
set_option maxRecDepth 100000 in
set_option maxHeartbeats 2000000 in
theorem rep_room {w : World} {g cap n i v : Nat} {L V : List Rn} (hr : Rw w g cap L) (hn : L.length = n) (hi : i + 1 < n) (hl : n ≤ 4096) (hc : n + 2 ≤ cap) (hv : Blk w v (rcs V) 107) (hV : V.length = 3) (hvg : v ≠ g) :
    Calls Tryz.prog 121 #[.slice (some ⟨g, 0, none⟩) n cap, .int .i64 (i : Int), .int .i64 ((i : Int) + 1), .slice (some ⟨v, 0, none⟩) 3 3] w (Repl g (n + 2) (L.take i ++ (V ++ L.drop (i + 1))) w) := by
  have hfit := hr.fit
  rw [hn] at hfit
  have HR := Lib.hid hr
  have HN := Lib.hid hn
  have HV := Lib.hid hv
  have HVL := Lib.hid hV
  have hgl := hr.lt
  have h1 : ((i : Int) == (i : Int) + 1) = false := by simp; omega
  have h2 : ((i : Int) + 1 == (n : Int)) = false := by simp; omega
  have w1 := i64_in ((i : Int) + 3) (by omega) (by omega)
  clear hr hv hn hV
  go_enter Tryz.func121, Tryz.ntmps121
  go_wp2_with fail
  go_quiet (fail)
  obtain ⟨T, hT⟩ : ∃ T, n + 2 = T := ⟨_, rfl⟩
  rw [show (i : Int) + 3 + ((n - (i + 1) : Nat) : Int) = (T : Int) by omega]
  have hTc : ¬ ((cap : Int) < (T : Int)) := by omega
  have hTd : (T : Int) ≤ (cap : Int) := by omega
  have hb2 : Below w.heap.size w (w.drewN nq) := up_drew (Below.refl _ w) nq
  have HB2 := Lib.hid hb2
  have R2 := Lib.hid (HR.out.below hb2)
  have V2 := Lib.hid (HV.out.of (hb2.block _ HV.out.lt))
  generalize w.drewN nq = w2 at HB2 R2 V2
  clear hb2
  have h3 : decide ((i : Int) + 3 ≤ (i : Int) + 1) = false := by simp
  have c1 : i + 3 < cap := by omega
  have c2 : i + 3 < T := by omega
  go_wp2_with fail
  obtain ⟨cur, hcb, hcl, hcn, hcm, hct⟩ := R2.out
  rw [run_over hcb V2.out (fun e => hvg e.symm) (by rw [rcs_length, HVL.out]; omega)]
  have B2 := Lib.hid hcb
  have C2 : Hid (cur.length = cap * 3 ∧ cap ≤ maxLen ∧ cur.take (n * 3) = rcs L) := ⟨hcl, hcm, by rw [← HN.out]; exact hct⟩
  clear hcb hcl hcn hcm hct
  go_wp2_with fail
  have s1 : (0 : Int) ≤ (i : Int) + 3 := by omega
  have s2 : (i : Int) + 3 ≤ (T : Int) := by omega
  have s3 : ((i : Int) + 3).toNat = i + 3 := by omega
  have s4 : cap ≠ i + 3 := by omega
  have s5 : (0 : Int) ≤ (i : Int) + 1 := by omega
  have s6 : (i : Int) + 1 ≤ (n : Int) := by omega
  have s7 : ((i : Int) + 1).toNat = i + 1 := by omega
  have s8 : cap ≠ i + 1 := by omega
  go_still_tail 9, (by kernel_rfl)
  change wpList _ _ _ _ _ w2.drew
  have B3 : Hid (Blk w2.drew g cur 107) := B2.out
  have R3 : Hid (Rw w2.drew g cap L) := R2.out.below (Below.refl _ _).drew
  have V3 : Hid (Blk w2.drew v (rcs V) 107) := V2.out
  have D3 : Hid (Below w.heap.size w w2.drew) := HB2.out.drew
  generalize w2.drew = w3 at B3 R3 V3 D3
  clear B2 R2 V2 HB2
  go_wp2_with fail
  obtain ⟨w4, hrun, b4, g4⟩ := run_copy3 w3 3 g ((i + 3) * 3) (T - (i + 3)) (cap - (i + 3)) ⟨g, (i + 1) * 3, none⟩ (n - (i + 1)) (cap - (i + 1)) (n - (i + 1)) cur (rcs (L.drop (i + 1))) B3.out
    (by simp [Nat.min_def]; omega) (by rw [rcs_length, List.length_drop, HN.out]) (R3.out.srcs (by rw [HN.out]; omega))
    (by rw [rcs_length, List.length_drop, HN.out, C2.out.1]; omega) (rcs_one _)
  rw [hrun]
  have B4 := Lib.hid b4
  have V4 := Lib.hid (V3.out.of (g4.block v V3.out.lt (by simpa using hvg)))
  have G4 := Lib.hid (grown_trans (grown_below D3.out) g4)
  clear hrun b4 g4 V3 R3 B3 D3
  go_wp2_with fail
  have hl1 : (splice cur ((i + 3) * 3) (rcs (L.drop (i + 1)))).length = cap * 3 := by rw [length_splice _ _ _ (by rw [rcs_length, List.length_drop, HN.out, C2.out.1]; omega), C2.out.1]
  obtain ⟨w6, hrun, b6, g6⟩ := run_copy3 w4 3 g (i * 3) (T - i) (cap - i) ⟨v, 0, none⟩ 3 3 3 (splice cur ((i + 3) * 3) (rcs (L.drop (i + 1)))) (rcs V) B4.out
    (by simp [Nat.min_def]; omega) (by rw [rcs_length, HVL.out]) V4.out.srcs (by rw [rcs_length, HVL.out, hl1]; omega) (rcs_one _)
  rw [hrun]
  have hrow : Rw w6 g cap (L.take i ++ (V ++ L.drop (i + 1))) := by
    have hll : (L.take i ++ (V ++ L.drop (i + 1))).length = n + 2 := by simp [HN.out, HVL.out]; omega
    refine ⟨_, b6, ?_, by rw [hll]; omega, C2.out.2.1, ?_⟩
    · rw [length_splice _ _ _ (by rw [rcs_length, HVL.out, hl1]; omega), hl1]
    · have hA : cur.take (i * 3) = rcs (L.take i) := by
        rw [← rcs_take L i (by rw [HN.out]; omega), ← C2.out.2.2, List.take_take, Nat.min_eq_left (by omega)]
      have := spl21 cur (rcs (L.take i)) (rcs V) (rcs (L.drop (i + 1))) (i * 3) 9 hA (by rw [rcs_length]; simp [HN.out]; omega) (by rw [rcs_length, HVL.out]) (by rw [rcs_length, List.length_drop, HN.out, C2.out.1]; omega)
      rw [rcs_app, rcs_app, ← this, hll]
      congr 1
      · rw [rcs_length, List.length_drop, HN.out]; omega
      · congr 2; omega
  have HROW := Lib.hid hrow
  have G6 := Lib.hid (grown_trans G4.out g6)
  clear hrun b6 g6 hrow hl1
  go_wp2
  go_ret
  exact ⟨g, cap, by rw [hT]; rfl, HROW.out, G6.out, .inl rfl⟩
theorem rep_any {w : World} {g cap n i v : Nat} {L V : List Rn} (hr : Rw w g cap L) (hn : L.length = n) (hi : i < n) (hl : n ≤ 4096) (hv : Blk w v (rcs V) 107) (hV : V.length = 3) (hvg : v ≠ g) :
    Calls Tryz.prog 121 #[.slice (some ⟨g, 0, none⟩) n cap, .int .i64 (i : Int), .int .i64 ((i : Int) + 1), .slice (some ⟨v, 0, none⟩) 3 3] w (Repl g (n + 2) (L.take i ++ (V ++ L.drop (i + 1))) w) := by
  by_cases h1 : i + 1 = n
  · subst h1
    have e : L.drop (i + 1) = [] := List.drop_eq_nil_of_le (by omega)
    rw [e, List.append_nil]
    exact rep_last hr hn (by omega) hv hV
  · by_cases h2 : n + 2 ≤ cap
    · exact rep_room hr hn (by omega) hl h2 hv hV hvg
    · exact rep_grow hr hn (by omega) hl (by omega) hv hV
end Go.Proofs.YtjnknnakllbaaaaGreat.Sp
