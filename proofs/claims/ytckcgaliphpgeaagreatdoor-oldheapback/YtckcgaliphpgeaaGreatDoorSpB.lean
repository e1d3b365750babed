import Derived.Test.YtckcgaliphpgeaaGreatDoorSpA
import Derived.StillTailTactics
import Derived.Deep.DeepCutAuto
/-
  What slices.Replace does: contracts that the claimed proofs use.
-/
namespace Go.Proofs.YtckcgaliphpgeaaGreatDoor.Sp
set_option maxRecDepth 100000
open Go.RowKit

theorem spl12 {α : Type} (cur A B C : List α) (a b : Nat) (hA : cur.take a = A) (ha : A.length = a) (hb : B.length = b) (_hfit : a + b + C.length ≤ cur.length) :
    (splice (splice cur a B) (a + b) C).take (a + b + C.length) = A ++ (B ++ C) := by
  have e1 : splice cur a B = (A ++ B) ++ cur.drop (a + b) := by unfold splice; rw [hA, hb, List.append_assoc]
  have e2 : splice (splice cur a B) (a + b) C = (A ++ (B ++ C)) ++ (splice cur a B).drop (a + b + C.length) := by
    conv => lhs; unfold splice
    have : (splice cur a B).take (a + b) = A ++ B := by rw [e1]; exact List.take_left' (by simp; omega)
    rw [show cur.take a ++ (B ++ cur.drop (a + B.length)) = splice cur a B from rfl, this]
    simp
  rw [e2]
  exact List.take_left' (by simp; omega)
theorem spl21 {α : Type} (cur A B C : List α) (a b : Nat) (hA : cur.take a = A) (ha : A.length = a) (hb : B.length = b) (hfit : a + b + C.length ≤ cur.length) :
    (splice (splice cur (a + b) C) a B).take (a + b + C.length) = A ++ (B ++ C) := by
  have e1 : splice cur (a + b) C = cur.take (a + b) ++ (C ++ cur.drop (a + b + C.length)) := rfl
  have l1 : (cur.take (a + b)).length = a + b := by simp; omega
  have t1 : (splice cur (a + b) C).take a = A := by
    rw [e1, List.take_append_of_le_length (by omega), List.take_take, Nat.min_eq_left (by omega), hA]
  have d1 : (splice cur (a + b) C).drop (a + b) = C ++ cur.drop (a + b + C.length) := by
    rw [e1]; exact List.drop_left' l1
  have e2 : splice (splice cur (a + b) C) a B = (A ++ (B ++ C)) ++ cur.drop (a + b + C.length) := by
    conv => lhs; unfold splice
    rw [show cur.take (a + b) ++ (C ++ cur.drop (a + b + C.length)) = splice cur (a + b) C from rfl, t1, hb, d1]
    simp
  rw [e2]
  exact List.take_left' (by simp; omega)
theorem add_at (g o j : Nat) : (⟨g, o, none⟩ : Addr).add j = ⟨g, o + j, none⟩ := by unfold Addr.add; split <;> simp_all
theorem Rw.srcs {w : World} {g cap k : Nat} {L : List Rn} (h : Rw w g cap L) (hk : k ≤ L.length) : ∀ j v, (rcs (L.drop k))[j]? = some v → w.cell? ((⟨g, k * 3, none⟩ : Addr).add j) = some v := by
  intro j v hv
  rw [add_at]
  have := h.news (k * 3 + j) v (by rw [← rcs_drop L k hk, List.getElem?_drop] at hv; exact hv)
  rwa [add_at, Nat.zero_add] at this
theorem Blk.srcs {w : World} {g : Nat} {vs : List Value} {t : TypeId} (h : Blk w g vs t) : ∀ j v, vs[j]? = some v → w.cell? ((⟨g, 0, none⟩ : Addr).add j) = some v := by
  intro j v hv
  rw [add_at, Nat.zero_add, h.cell]; exact hv
theorem list_zeros {W : World} {ops : Array Oper} {rest : List Oper} {o : Oper} {a : Act} {Q : Exit → Act → World → Prop} (hgd : o.guard = none) (s x : Operand)
    (ho : o.op = .call { callee := .builtin .append, args := #[s, x], argTypes := #[163, 3] }) (g sLen sCap n cap : Nat) (L : List Rn) (hr : Rw W g cap L) (hsl : sLen ≤ L.length) (hlen : sLen + n ≤ 1048576) (h0 : 0 < n) (hg : sCap < sLen + n)
    (hs : a.eval s = .slice (some ⟨g, 0, none⟩) sLen sCap) (hx : a.eval x = .int .i64 (n : Int))
    (h : ∀ cap' w' cur', Hid (Blk w' W.heap.size cur' 108) → Hid (cur'.length = cap' * 3 ∧ sLen + n ≤ cap' ∧ cap' ≤ maxLen ∧ cur'.take (sLen * 3) = rcs (L.take sLen)) → Hid (Below W.heap.size W w') → wpList Tryz.prog ops Q rest (a.put o.dst (.slice (some ⟨W.heap.size, 0, none⟩) (sLen + n) cap')) w') : wpList Tryz.prog ops Q (o :: rest) a W := by
  obtain ⟨g', cap', w', cur', hrun, hb, rfl, h1, h2, h3, h4, hbel⟩ := run_zeros3 W o.type g sLen sCap n cap L hr hsl hlen h0 hg
  refine wpList_plain hgd fun K hK => ?_
  unfold Oper.wp execOp
  simp only [ho, resolve, invoke, builtin, Sem.run_bind, Sem.run_pure, Result.andThen_ok, List.map_toArray, List.map_cons, List.map_nil, hs, hx, hrun]
  exact hK _ _ (h cap' w' cur' hb ⟨h1, h2, h3, h4⟩ hbel)
theorem Blk.shape {w : World} {g : Nat} {vs : List Value} {t : TypeId} (h : Blk w g vs t) : w.shape? g = some (t, vs.length) := by
  unfold World.shape?; rw [show w.heap[g]? = _ from h]; simp
theorem run_over {w : World} {g v o la ca lb cb : Nat} {cur vs : List Value} (hg : Blk w g cur 108) (hv : Blk w v vs 108) (hne : g ≠ v) (hl : vs.length ≠ 0) :
    (callFunc 187 #[.slice (some ⟨g, o, none⟩) la ca, .slice (some ⟨v, 0, none⟩) lb cb]).run Tryz.prog w = .ok (.value (.bool false)) w := by
  rw [run_callFunc_extern Tryz.func187 (by kernel_rfl) (by kernel_rfl) (by kernel_rfl) (e := Extern.SlicesOverlaps.overlaps #[163, 163] #[4]) (by kernel_rfl),
    Lib.run_overlaps_apart w 163 4 108 Tryz.underlying163 3 Tryz.sizeOf108 ⟨g, o, none⟩ ⟨v, 0, none⟩ la ca lb cb hne 108 108 _ _ hg.shape hv.shape hl (hg.frozen _) (hg.frozen _)]
  rfl
/-- What is left behind it. -/
def Repl (g m : Nat) (L' : List Rn) (w : World) (e : Ending) (w' : World) : Prop := ∃ g' cap', e = .returned (.slice (some ⟨g', 0, none⟩) m cap') ∧ Rw w' g' cap' L' ∧ w.grownBy w' (some g) ∧ (g' = g ∨ w.heap.size ≤ g')
set_option maxRecDepth 100000 in
set_option maxHeartbeats 2000000 in
theorem rep_last {w : World} {g cap i v : Nat} {L V : List Rn} (hr : Rw w g cap L) (hn : L.length = i + 1) (hl : i ≤ 4096) (hv : Blk w v (rcs V) 108) (hV : V.length = 3) :
    Calls Tryz.prog 162 #[.slice (some ⟨g, 0, none⟩) (i + 1) cap, .int .i64 (i : Int), .int .i64 ((i : Int) + 1), .slice (some ⟨v, 0, none⟩) 3 3] w (Repl g (i + 3) (L.take i ++ V) w) := by
  obtain ⟨i0, hi0, hz0, hz1, hz2⟩ := info_parts run_info
  have hfit := hr.fit
  rw [hn] at hfit
  have HO := Lib.hid (hr.owns (i := i) (by omega))
  have HV := Lib.hid hv.srcs
  have H1 := Lib.hid (rcs_one V)
  have hgl := hr.lt
  have HL : Hid ((rcs V).length = 3 * 3) := by show _ = _; rw [rcs_length, hV]
  have HLL : Hid ((L.take i ++ V).length = i + 3) := by show _ = _; rw [List.length_append, hV, List.length_take]; omega
  have h1 : ((i : Int) == (i : Int) + 1) = false := by simp; omega
  clear hr hv hn hV
  go_enter Tryz.func162, Tryz.ntmps162
  go_wp2_with (at_builtin; refine wpList_append_lies _ rfl _ _ 163 rfl g 108 i0 _ 3 24 Tryz.underlying163 hi0 hz0 hz1 hz2 rfl (by omega) _ i (rcs (L.take i)) rfl HO.out ⟨v, 0, none⟩ 3 3 (rcs V) rfl HL.out HV.out H1.out (by omega) (by simp only [maxLen]; omega) (by omega) (by omega) _ rfl ?_; intro g' cap' w' h2 h3 h4 h5)
  obtain ⟨hrow, _⟩ := Rw.owned (L := L.take i ++ V) (by rw [rcs_app]; exact h2) HLL.out
  have HR := Lib.hid hrow
  have h3' : w.grownBy w' (some g) := h3
  have h4' : some g = some g' ∨ g' = w.heap.size := h4
  have HG := Lib.hid h3'
  have H4 := Lib.hid h4'
  clear h2 h3 h4 hrow h3' h4'
  go_wp2
  go_ret
  refine ⟨g', cap', rfl, HR.out, HG.out, ?_⟩
  rcases H4.out with h | h
  · left; simpa using h.symm
  · right; omega
set_option maxRecDepth 100000 in
set_option maxHeartbeats 2000000 in
theorem rep_grow {w : World} {g cap n i v : Nat} {L V : List Rn} (hr : Rw w g cap L) (hn : L.length = n) (hi : i + 1 < n) (hl : n ≤ 4096) (hc : cap < n + 2) (hv : Blk w v (rcs V) 108) (hV : V.length = 3) :
    Calls Tryz.prog 162 #[.slice (some ⟨g, 0, none⟩) n cap, .int .i64 (i : Int), .int .i64 ((i : Int) + 1), .slice (some ⟨v, 0, none⟩) 3 3] w (Repl g (n + 2) (L.take i ++ (V ++ L.drop (i + 1))) w) := by
  have hfit := hr.fit
  rw [hn] at hfit
  have HR := Lib.hid hr
  have HN := Lib.hid hn
  have HV := Lib.hid hv
  have HVL := Lib.hid hV
  have hgl := hr.lt
  have h1 : ((i : Int) == (i : Int) + 1) = false := by simp; omega
  have h2 : ((i : Int) + 1 == (n : Int)) = false := by simp; omega
  have w1 := i64_in ((i : Int) + 3) (by omega) (by omega)
  clear hr hv hn hV
  go_enter Tryz.func162, Tryz.ntmps162
  go_wp2_with fail
  go_quiet (fail)
  obtain ⟨T, hT⟩ : ∃ T, n + 2 = T := ⟨_, rfl⟩
  rw [show (i : Int) + 3 + ((n - (i + 1) : Nat) : Int) = (T : Int) by omega]
  obtain ⟨M, hM⟩ : ∃ M, T - i = M := ⟨_, rfl⟩
  have hMi : (T : Int) - (i : Int) = (M : Int) := by omega
  have hTc : (cap : Int) < (T : Int) := by omega
  have hb2 : Below w.heap.size w (w.drewN nq) := up_drew (Below.refl _ w) nq
  have HB2 := Lib.hid hb2
  have R2 := Lib.hid (HR.out.below hb2)
  have V2 := Lib.hid (HV.out.of (hb2.block _ HV.out.lt))
  generalize w.drewN nq = w2 at HB2 R2 V2
  clear hb2
  go_wp2_with (at_builtin; refine list_zeros (by rfl) _ _ (by rfl) g i cap M cap L R2.out (by rw [HN.out]; omega) (by omega) (by omega) (by omega) (by rfl) (by rfl) ?_; intro cap3 w3 cur3 B3 C3 D3; have hc3 : i + M ≤ cap3 := C3.out.2.1; have hc4 : i + 3 < cap3 := (by omega); have hc5 : i < cap3 := (by omega))
  have V3 := Lib.hid (V2.out.of (D3.out.block _ V2.out.lt))
  obtain ⟨w4, hrun, b4, g4⟩ := run_copy3 w3 3 w2.heap.size (i * 3) M (cap3 - i) ⟨v, 0, none⟩ 3 3 3 cur3 (rcs V) B3.out (by simp [Nat.min_def]; omega) (by rw [rcs_length, HVL.out]) V3.out.srcs (by rw [rcs_length, HVL.out, C3.out.1]; omega) (rcs_one V)
  rw [hrun]
  have B4 := Lib.hid b4
  have D4 := Lib.hid (grown_new D3.out g4 (Nat.le_refl _))
  have hsz := D4.out.size
  have hgl2 := R2.out.lt
  clear hrun b4 g4
  go_wp2_with fail
  have s1 : (0 : Int) ≤ (i : Int) + 3 := by omega
  have s2 : (3 : Int) ≤ (M : Int) := by omega
  have s3 : ((i : Int) + 3).toNat = i + 3 := by omega
  have s4 : cap3 ≠ i + 3 := by omega
  have s5 : (0 : Int) ≤ (i : Int) + 1 := by omega
  have s6 : (i : Int) + 1 ≤ (n : Int) := by omega
  have s7 : ((i : Int) + 1).toNat = i + 1 := by omega
  have s8 : cap ≠ i + 1 := by omega
  go_still_tail 9, (by kernel_rfl)
  change wpList _ _ _ _ _ w4.drew
  have B5 : Hid (Blk w4.drew w2.heap.size (splice cur3 (i * 3) (rcs V)) 108) := B4.out
  have D5 : Hid (Below w2.heap.size w2 w4.drew) := D4.out.drew
  generalize w4.drew = w5 at B5 D5
  clear D4 B4
  go_wp2_with fail
  obtain ⟨w6, hrun, b6, g6⟩ := run_copy3 w5 3 w2.heap.size ((i + 3) * 3) (i + M - (i + 3)) (cap3 - (i + 3)) ⟨g, (i + 1) * 3, none⟩ (n - (i + 1)) (cap - (i + 1)) (n - (i + 1)) (splice cur3 (i * 3) (rcs V)) (rcs (L.drop (i + 1))) B5.out
    (by simp [Nat.min_def]; omega) (by rw [rcs_length, List.length_drop, HN.out]) ((R2.out.below D5.out).srcs (by rw [HN.out]; omega))
    (by rw [rcs_length, List.length_drop, HN.out, length_splice _ _ _ (by rw [rcs_length, HVL.out, C3.out.1]; omega), C3.out.1]; omega) (rcs_one _)
  rw [hrun]
  have hrow : Rw w6 w2.heap.size cap3 (L.take i ++ (V ++ L.drop (i + 1))) := by
    have hll : (L.take i ++ (V ++ L.drop (i + 1))).length = n + 2 := by simp [HN.out, HVL.out]; omega
    have hl1 : (splice cur3 (i * 3) (rcs V)).length = cap3 * 3 := by rw [length_splice _ _ _ (by rw [rcs_length, HVL.out, C3.out.1]; omega), C3.out.1]
    refine ⟨_, b6, ?_, by rw [hll]; omega, C3.out.2.2.1, ?_⟩
    · rw [length_splice _ _ _ (by rw [rcs_length, List.length_drop, HN.out, hl1]; omega), hl1]
    · have := spl12 cur3 (rcs (L.take i)) (rcs V) (rcs (L.drop (i + 1))) (i * 3) 9 C3.out.2.2.2 (by rw [rcs_length]; simp [HN.out]; omega) (by rw [rcs_length, HVL.out]) (by rw [rcs_length, List.length_drop, HN.out, C3.out.1]; omega)
      rw [rcs_app, rcs_app, ← this, hll]
      congr 1
      · rw [rcs_length, List.length_drop, HN.out]; omega
      · congr 1; omega
  have HROW := Lib.hid hrow
  have D6 := Lib.hid (up_trans HB2.out (grown_new D5.out g6 (Nat.le_refl _)))
  have hsw := HB2.out.size
  clear hrun b6 g6 hrow
  go_wp2
  go_ret
  exact ⟨w2.heap.size, cap3, by rw [show n + 2 = i + M by omega]; rfl, HROW.out, grown_below D6.out, .inr hsw⟩
set_option maxRecDepth 100000 in
set_option maxHeartbeats 2000000 in
theorem rep_room {w : World} {g cap n i v : Nat} {L V : List Rn} (hr : Rw w g cap L) (hn : L.length = n) (hi : i + 1 < n) (hl : n ≤ 4096) (hc : n + 2 ≤ cap) (hv : Blk w v (rcs V) 108) (hV : V.length = 3) (hvg : v ≠ g) :
    Calls Tryz.prog 162 #[.slice (some ⟨g, 0, none⟩) n cap, .int .i64 (i : Int), .int .i64 ((i : Int) + 1), .slice (some ⟨v, 0, none⟩) 3 3] w (Repl g (n + 2) (L.take i ++ (V ++ L.drop (i + 1))) w) := by
  have hfit := hr.fit
  rw [hn] at hfit
  have HR := Lib.hid hr
  have HN := Lib.hid hn
  have HV := Lib.hid hv
  have HVL := Lib.hid hV
  have hgl := hr.lt
  have h1 : ((i : Int) == (i : Int) + 1) = false := by simp; omega
  have h2 : ((i : Int) + 1 == (n : Int)) = false := by simp; omega
  have w1 := i64_in ((i : Int) + 3) (by omega) (by omega)
  clear hr hv hn hV
  go_enter Tryz.func162, Tryz.ntmps162
  go_wp2_with fail
  go_quiet (fail)
  obtain ⟨T, hT⟩ : ∃ T, n + 2 = T := ⟨_, rfl⟩
  rw [show (i : Int) + 3 + ((n - (i + 1) : Nat) : Int) = (T : Int) by omega]
  have hTc : ¬ ((cap : Int) < (T : Int)) := by omega
  have hTd : (T : Int) ≤ (cap : Int) := by omega
  have hb2 : Below w.heap.size w (w.drewN nq) := up_drew (Below.refl _ w) nq
  have HB2 := Lib.hid hb2
  have R2 := Lib.hid (HR.out.below hb2)
  have V2 := Lib.hid (HV.out.of (hb2.block _ HV.out.lt))
  generalize w.drewN nq = w2 at HB2 R2 V2
  clear hb2
  have h3 : decide ((i : Int) + 3 ≤ (i : Int) + 1) = false := by simp
  have c1 : i + 3 < cap := by omega
  have c2 : i + 3 < T := by omega
  go_wp2_with fail
  obtain ⟨cur, hcb, hcl, hcn, hcm, hct⟩ := R2.out
  rw [run_over hcb V2.out (fun e => hvg e.symm) (by rw [rcs_length, HVL.out]; omega)]
  have B2 := Lib.hid hcb
  have C2 : Hid (cur.length = cap * 3 ∧ cap ≤ maxLen ∧ cur.take (n * 3) = rcs L) := ⟨hcl, hcm, by rw [← HN.out]; exact hct⟩
  clear hcb hcl hcn hcm hct
  go_wp2_with fail
  have s1 : (0 : Int) ≤ (i : Int) + 3 := by omega
  have s2 : (i : Int) + 3 ≤ (T : Int) := by omega
  have s3 : ((i : Int) + 3).toNat = i + 3 := by omega
  have s4 : cap ≠ i + 3 := by omega
  have s5 : (0 : Int) ≤ (i : Int) + 1 := by omega
  have s6 : (i : Int) + 1 ≤ (n : Int) := by omega
  have s7 : ((i : Int) + 1).toNat = i + 1 := by omega
  have s8 : cap ≠ i + 1 := by omega
  go_still_tail 9, (by kernel_rfl)
  change wpList _ _ _ _ _ w2.drew
  have B3 : Hid (Blk w2.drew g cur 108) := B2.out
  have R3 : Hid (Rw w2.drew g cap L) := R2.out.below (Below.refl _ _).drew
  have V3 : Hid (Blk w2.drew v (rcs V) 108) := V2.out
  have D3 : Hid (Below w.heap.size w w2.drew) := HB2.out.drew
  generalize w2.drew = w3 at B3 R3 V3 D3
  clear B2 R2 V2 HB2
  go_wp2_with fail
  obtain ⟨w4, hrun, b4, g4⟩ := run_copy3 w3 3 g ((i + 3) * 3) (T - (i + 3)) (cap - (i + 3)) ⟨g, (i + 1) * 3, none⟩ (n - (i + 1)) (cap - (i + 1)) (n - (i + 1)) cur (rcs (L.drop (i + 1))) B3.out
    (by simp [Nat.min_def]; omega) (by rw [rcs_length, List.length_drop, HN.out]) (R3.out.srcs (by rw [HN.out]; omega))
    (by rw [rcs_length, List.length_drop, HN.out, C2.out.1]; omega) (rcs_one _)
  rw [hrun]
  have B4 := Lib.hid b4
  have V4 := Lib.hid (V3.out.of (g4.block v V3.out.lt (by simpa using hvg)))
  have G4 := Lib.hid (grown_trans (grown_below D3.out) g4)
  clear hrun b4 g4 V3 R3 B3 D3
  go_wp2_with fail
  have hl1 : (splice cur ((i + 3) * 3) (rcs (L.drop (i + 1)))).length = cap * 3 := by rw [length_splice _ _ _ (by rw [rcs_length, List.length_drop, HN.out, C2.out.1]; omega), C2.out.1]
  obtain ⟨w6, hrun, b6, g6⟩ := run_copy3 w4 3 g (i * 3) (T - i) (cap - i) ⟨v, 0, none⟩ 3 3 3 (splice cur ((i + 3) * 3) (rcs (L.drop (i + 1)))) (rcs V) B4.out
    (by simp [Nat.min_def]; omega) (by rw [rcs_length, HVL.out]) V4.out.srcs (by rw [rcs_length, HVL.out, hl1]; omega) (rcs_one _)
  rw [hrun]
  have hrow : Rw w6 g cap (L.take i ++ (V ++ L.drop (i + 1))) := by
    have hll : (L.take i ++ (V ++ L.drop (i + 1))).length = n + 2 := by simp [HN.out, HVL.out]; omega
    refine ⟨_, b6, ?_, by rw [hll]; omega, C2.out.2.1, ?_⟩
    · rw [length_splice _ _ _ (by rw [rcs_length, HVL.out, hl1]; omega), hl1]
    · have hA : cur.take (i * 3) = rcs (L.take i) := by
        rw [← rcs_take L i (by rw [HN.out]; omega), ← C2.out.2.2, List.take_take, Nat.min_eq_left (by omega)]
      have := spl21 cur (rcs (L.take i)) (rcs V) (rcs (L.drop (i + 1))) (i * 3) 9 hA (by rw [rcs_length]; simp [HN.out]; omega) (by rw [rcs_length, HVL.out]) (by rw [rcs_length, List.length_drop, HN.out, C2.out.1]; omega)
      rw [rcs_app, rcs_app, ← this, hll]
      congr 1
      · rw [rcs_length, List.length_drop, HN.out]; omega
      · congr 2; omega
  have HROW := Lib.hid hrow
  have G6 := Lib.hid (grown_trans G4.out g6)
  clear hrun b6 g6 hrow hl1
  go_wp2
  go_ret
  exact ⟨g, cap, by rw [hT]; rfl, HROW.out, G6.out, .inl rfl⟩
theorem rep_any {w : World} {g cap n i v : Nat} {L V : List Rn} (hr : Rw w g cap L) (hn : L.length = n) (hi : i < n) (hl : n ≤ 4096) (hv : Blk w v (rcs V) 108) (hV : V.length = 3) (hvg : v ≠ g) :
    Calls Tryz.prog 162 #[.slice (some ⟨g, 0, none⟩) n cap, .int .i64 (i : Int), .int .i64 ((i : Int) + 1), .slice (some ⟨v, 0, none⟩) 3 3] w (Repl g (n + 2) (L.take i ++ (V ++ L.drop (i + 1))) w) := by
  by_cases h1 : i + 1 = n
  · subst h1
    have e : L.drop (i + 1) = [] := List.drop_eq_nil_of_le (by omega)
    rw [e, List.append_nil]
    exact rep_last hr hn (by omega) hv hV
  · by_cases h2 : n + 2 ≤ cap
    · exact rep_room hr hn (by omega) hl h2 hv hV hvg
    · exact rep_grow hr hn (by omega) hl (by omega) hv hV
end Go.Proofs.YtckcgaliphpgeaaGreatDoor.Sp

/-
  Where pages may be taken: contracts that the claimed proofs use.
-/
namespace Go.Proofs.YtckcgaliphpgeaaGreatDoor.Sp
set_option maxRecDepth 100000
open Go.RowKit

theorem ask_any (n a : Int) (w : World) : Calls Tryz.prog 121 #[.int .i64 n, .int .i64 a] w fun e w' => e = .returned (.bool (askB n a)) ∧ w = w' := by
  by_cases h0 : 1 ≤ n
  · by_cases h1 : a ≤ 4096
    · have hd : decide (1 ≤ n) = true := by simpa using h0
      have hd1 : decide (a ≤ 4096) = true := by simpa using h1
      have e : askB n a = powB a := by unfold askB; rw [hd, hd1]; simp
      rw [e]
      clear e
      go_enter Tryz.func121, Tryz.ntmps121
      go_wp2_with (go_at_call 159; refine (power_any _ _).mono ?_; rintro e w' ⟨rfl, rfl⟩)
      go_ret
      exact ⟨rfl, rfl⟩
    · have hd : decide (1 ≤ n) = true := by simpa using h0
      have hd1 : decide (a ≤ 4096) = false := by simpa using h1
      have e : askB n a = false := by unfold askB; rw [hd1]; simp
      rw [e]
      clear e
      go_enter Tryz.func121, Tryz.ntmps121
      go_wp2
      go_ret
      exact ⟨rfl, rfl⟩
  · have hd : decide (1 ≤ n) = false := by simpa using h0
    have e : askB n a = false := by unfold askB; rw [hd]; simp
    rw [e]
    clear e
    go_enter Tryz.func121, Tryz.ntmps121
    go_wp2
    go_ret
    exact ⟨rfl, rfl⟩
theorem mult_any (p a : Int) (w : World) (h0 : 0 ≤ p) (h1 : p ≤ 4096) (ha : powB a = true) : Calls Tryz.prog 124 #[.int .i64 p, .int .i64 a] w fun e w' => e = .returned (.int .i64 (up p a)) ∧ w = w' := by
  have HU := Lib.hid (fun w => up_yes p a w (sizeB_iff.2 ⟨h0, by omega⟩) ha)
  clear ha
  go_enter Tryz.func124, Tryz.ntmps124
  go_wp2_with (go_at_call 161; refine (HU.out _).mono ?_; rintro e w' ⟨rfl, rfl⟩)
  go_ret
  exact ⟨rfl, rfl⟩
theorem holds_any (n a : Int) (w : World) : Calls Tryz.prog 123 #[.int .i64 n, .int .i64 a] w fun e w' =>
    e = .returned (.func (.func 160) #[] #[.pointer (some ⟨w.heap.size + 1, 0, none⟩), .pointer (some ⟨w.heap.size, 0, none⟩)]) ∧ w' = (w.alloc (.cells #[.int .i64 n] 3)).alloc (.cells #[.int .i64 a] 3) := by
  have hmf := make_func
  go_enter Tryz.func123, Tryz.ntmps123
  go_wp2
  go_ret
  exact ⟨rfl, rfl⟩
theorem fits_any {W : World} {bn ba : Nat} (n a p m : Int) (t : Bool) (hn : W.cell? ⟨bn, 0, none⟩ = some (.int .i64 n)) (ha : W.cell? ⟨ba, 0, none⟩ = some (.int .i64 a)) (h0 : 0 ≤ p) (h1 : p ≤ 4096) (h2 : 0 ≤ m) (h3 : m ≤ 4096) (hpw : powB a = true) (h4 : a ≤ 4096) :
    Calls Tryz.prog 160 #[.agg #[.int .i64 p, .int .i64 m, .bool t], .pointer (some ⟨ba, 0, none⟩), .pointer (some ⟨bn, 0, none⟩)] W fun e w' => e = .returned (.bool (fit n a ⟨p, m, t⟩)) ∧ Below W.heap.size W w' := by
  have hb1 := World.block_lt_of_cell? W _ hn
  have hb2 := World.block_lt_of_cell? W _ ha
  have hb3 : bn ≠ W.heap.size := by dsimp only at hb1; omega
  have hb4 : ba ≠ W.heap.size := by dsimp only at hb2; omega
  have HM : Hid (∀ (w : World) (k : Nat), Calls Tryz.prog 124 #[.int .i64 p, .int .i64 a] (w.drewN k) fun e w' => e = .returned (.int .i64 (up p a)) ∧ ∃ j, w' = w.drewN j) :=
    fun w k => (mult_any p a (w.drewN k) h0 h1 hpw).mono fun _ _ ⟨he, hw⟩ => ⟨he, k, hw.symm⟩
  have hu := up_spec p (powB_bd hpw).1
  have hf : fit n a ⟨p, m, t⟩ = (!t && decide (n ≤ m - (up p a - p))) := rfl
  rw [hf]
  generalize up p a = u at HM hu ⊢
  have hwr := i64_in (u - p) (by omega) (by omega)
  have hwr2 : IntKind.i64.wrap (m - (u - p)) = m - (u - p) := by rw [IntKind.wrap_i64]; omega
  clear hf hpw
  cases t with
  | true =>
    go_enter Tryz.func160, Tryz.ntmps160
    go_wp2_with fail
    go_quiet ((go_at_call 124; exact HM.out _ _))
    go_wp2
    go_ret
    exact ⟨rfl, up_drew (up_alloc (Below.refl _ W) _) _⟩
  | false =>
    go_enter Tryz.func160, Tryz.ntmps160
    go_wp2_with fail
    go_quiet ((go_at_call 124; exact HM.out _ _))
    go_wp2
    go_ret
    exact ⟨rfl, up_drew (up_alloc (Below.refl _ W) _) _⟩
theorem box3d {W w2 : World} {a b c : Value} {t : TypeId} (h : Below (W.alloc (.cells #[a, b, c] t)).drew.heap.size (W.alloc (.cells #[a, b, c] t)).drew w2) :
    w2.cell? ⟨W.heap.size, 0, none⟩ = some a ∧ w2.cell? ⟨W.heap.size, 1, none⟩ = some b ∧ w2.cell? ⟨W.heap.size, 2, none⟩ = some c ∧ Below W.heap.size W w2 := box3 (up_trans (Below.refl _ _).drew h)
/-- A region that draws its order, whose operations read what is the same in every world of a class, and whose calls leave worlds of it. -/
theorem region_in {id : Nat} {Q : Exit → Act → World → Prop} {a : Act} {w : World} {l : List Oper} (S : World → Prop) (hm : Tryz.prog.follows .mixedOrders = true) (hB : Region.lexB .any l.toArray = true) (hS : S w.drew)
    (h : ∀ (ι : Type) (_ : Nonempty ι) (f : ι → World), (∀ n, S (f n)) → (∀ W, S W → ∃ n, W = f n) → wpQuiet Tryz.prog l.toArray (fun w' => ∃ n, w' = f n) (fun a' => ∀ w', (∃ n, w' = f n) → Q .normal a' w') l a) :
    (Code.region id l.toArray true).wp Tryz.prog Q a w :=
  wp_region_quiet (C := fun w' => ∃ n : {W // S W}, w' = n.1) hm hB ⟨⟨w.drew, hS⟩, rfl⟩ (by simpa using h {W // S W} ⟨⟨w.drew, hS⟩⟩ Subtype.val (fun n => n.2) (fun W hW => ⟨⟨W, hW⟩, rfl⟩))
/-- Where the shortest run stands that fits. -/
theorem bst_step (n a : Int) (L : List Rn) (i : Nat) : bst n a L (i + 1) = if fit n a (el L i) = true ∧ (bst n a L i = -1 ∨ (el L i).n < (el L (bst n a L i).toNat).n) then (i : Int) else bst n a L i := rfl
set_option maxHeartbeats 2000000 in
theorem shortest_any {w : World} {q g bn ba : Nat} {N n a : Int} {L : List Rn} (h : Sp w q g L) (hw : WF N L) (hN : N ≤ 4096) (hn : w.cell? ⟨bn, 0, none⟩ = some (.int .i64 n)) (ha : w.cell? ⟨ba, 0, none⟩ = some (.int .i64 a)) (hpw : powB a = true) (h4 : a ≤ 4096) :
    Calls Tryz.prog 122 #[.pointer (some ⟨q, 0, none⟩), .func (.func 160) #[] #[.pointer (some ⟨ba, 0, none⟩), .pointer (some ⟨bn, 0, none⟩)]] w fun e w' => e = .returned (.int .i64 (bst n a L L.length)) ∧ Below w.heap.size w w' := by
  obtain ⟨cap, hqq, hr, hne⟩ := h
  have c0 : w.cell? ⟨q, 0, none⟩ = some (.slice (some ⟨g, 0, none⟩) L.length cap) := hqq.cell
  obtain ⟨M, hM⟩ : ∃ M, L.length = M := ⟨_, rfl⟩
  have HM := Lib.hid hM
  have hlen : M ≤ 4096 := by have := hw.len; omega
  rw [hM] at c0 ⊢
  have HR := Lib.hid hr
  have HQ := Lib.hid hqq
  have hql := hqq.lt
  have HF : Hid (∀ (W : World) (k : Nat), Below w.heap.size w W → k < M → Calls Tryz.prog 160 #[.agg #[.int .i64 (el L k).p, .int .i64 (el L k).n, .bool (el L k).t], .pointer (some ⟨ba, 0, none⟩), .pointer (some ⟨bn, 0, none⟩)] W fun e w' => e = .returned (.bool (fit n a (el L k))) ∧ Below W.heap.size W w') :=
    fun W k hb hk => by
      have hbd := hw.bds hN (by rw [hM]; exact hk)
      exact fits_any n a _ _ _ ((hb.cell (World.block_lt_of_cell? w _ hn)).trans hn) ((hb.cell (World.block_lt_of_cell? w _ ha)).trans ha) hbd.1 hbd.2.1 hbd.2.2.1 hbd.2.2.2 hpw h4
  clear hqq hr hne hM hw hn ha hpw
  go_enter Tryz.func122, Tryz.ntmps122
  go_wp2
  go_loopw [5, 13] (fun b i wr => ∃ k : Nat, k ≤ M ∧ i = .int .i64 k ∧ b = .int .i64 (bst n a L k) ∧ Below w.heap.size w wr) (fun _ i _ => M - (intOf i).toNat)
  case atStart => exact ⟨0, by omega, rfl, rfl, Below.refl _ _⟩
  case round =>
    obtain ⟨k, hk, rfl, rfl, hbel⟩ := hrel
    have HB := Lib.hid hbel
    have hsz := hbel.size
    clear hbel
    by_cases hlt : k < M
    · have hkl : k < L.length := by rw [HM.out]; exact hlt
      have hrow := HR.out.below HB.out
      obtain ⟨r0, r1, r2⟩ := hrow.cells hkl
      have hgl := hrow.lt
      have hqc : wr.cell? ⟨q, 0, none⟩ = some (.slice (some ⟨g, 0, none⟩) M cap) := (HB.out.cell (p := ⟨q, 0, none⟩) hql).trans c0
      have HBA := Lib.hid (up_alloc HB.out (.cells #[.int .i64 (el L k).p, .int .i64 (el L k).n, .bool (el L k).t] 108))
      have HFk := Lib.hid (fun W hb => HF.out W k hb hlt)
      have hst := bst_step n a L k
      have hbi := bst_is n a L k
      have k1 : (0 : Int) ≤ (k : Int) := by omega
      have k2 : (k : Int) < (M : Int) := by omega
      generalize el L k = x at r0 r1 r2 HBA HFk hst
      obtain ⟨p, m, t⟩ := x
      dsimp only at r0 r1 r2 HBA HFk hst
      cases hf : fit n a ⟨p, m, t⟩ with
      | false =>
        rw [hf] at HFk hst
        have e1 : bst n a L (k + 1) = bst n a L k := by rw [hst, if_neg (by simp)]
        have HE := Lib.hid e1
        generalize bst n a L k = B at HE ⊢
        clear hst hbi e1 hrow hf
        go_wp2_with fail
        refine region_in (fun W => Below (wr.alloc (.cells #[.int .i64 p, .int .i64 m, .bool t] 108)).heap.size (wr.alloc (.cells #[.int .i64 p, .int .i64 m, .bool t] 108)) W) (by kernel_rfl) (by kernel_rfl) (Below.refl _ _).drew ?_
        intro ι ine f hS hT
        have HS := Lib.hid hS
        have s0 : ∀ n, (f n).cell? ⟨wr.heap.size, 0, none⟩ = some (.int .i64 p) := fun n => (box3 (HS.out n)).1
        have s1 : ∀ n, (f n).cell? ⟨wr.heap.size, 1, none⟩ = some (.int .i64 m) := fun n => (box3 (HS.out n)).2.1
        have s2 : ∀ n, (f n).cell? ⟨wr.heap.size, 2, none⟩ = some (.bool t) := fun n => (box3 (HS.out n)).2.2.1
        have HC := Lib.hid (fun n => (HFk.out (f n) (up_trans HBA.out (hS n))).mono fun e w' ⟨he, hb⟩ => show _ ∧ ∃ j, w' = f j from ⟨he, hT w' (up_trans (hS n) hb)⟩)
        clear hS hT
        repeat (go_big_quiet_step ((go_at_call 160; exact HC.out _)))
        refine wpQuiet_nil ?_
        rintro _ ⟨n1, rfl⟩
        have b3 := (box3 (HS.out n1)).2.2.2
        have HB2 := Lib.hid (up_trans HB.out b3)
        go_wp2
        go_roundw
        case rel => exact ⟨k + 1, by omega, by go_num, by rw [HE.out], HB2.out⟩
        case measure => simp [intOf]; omega
      | true =>
        rw [hf] at HFk hst
        rcases hbi with ⟨hB, _⟩ | ⟨K, hB, hK, _⟩
        · have e1 : bst n a L (k + 1) = k := by rw [hst, if_pos ⟨rfl, .inl hB⟩]
          have HE := Lib.hid e1
          rw [hB]
          clear hst e1 hrow hf hB
          go_wp2_with fail
          refine region_in (fun W => Below (wr.alloc (.cells #[.int .i64 p, .int .i64 m, .bool t] 108)).heap.size (wr.alloc (.cells #[.int .i64 p, .int .i64 m, .bool t] 108)) W) (by kernel_rfl) (by kernel_rfl) (Below.refl _ _).drew ?_
          intro ι ine f hS hT
          have HS := Lib.hid hS
          have s0 : ∀ n, (f n).cell? ⟨wr.heap.size, 0, none⟩ = some (.int .i64 p) := fun n => (box3 (HS.out n)).1
          have s1 : ∀ n, (f n).cell? ⟨wr.heap.size, 1, none⟩ = some (.int .i64 m) := fun n => (box3 (HS.out n)).2.1
          have s2 : ∀ n, (f n).cell? ⟨wr.heap.size, 2, none⟩ = some (.bool t) := fun n => (box3 (HS.out n)).2.2.1
          have HC := Lib.hid (fun n => (HFk.out (f n) (up_trans HBA.out (hS n))).mono fun e w' ⟨he, hb⟩ => show _ ∧ ∃ j, w' = f j from ⟨he, hT w' (up_trans (hS n) hb)⟩)
          clear hS hT
          repeat (go_big_quiet_step ((go_at_call 160; exact HC.out _)))
          refine wpQuiet_nil ?_
          rintro _ ⟨n1, rfl⟩
          have b3 := (box3 (HS.out n1)).2.2.2
          have HB2 := Lib.hid (up_trans HB.out b3)
          go_wp2
          go_roundw
          case rel => exact ⟨k + 1, by omega, by go_num, by rw [HE.out], HB2.out⟩
          case measure => simp [intOf]; omega
        · have hKl : K < L.length := by omega
          have e0 := (hrow.cells hKl).2.1
          have hBK : ((K : Int) == -1) = false := by simp
          have K2 : (K : Int) < (M : Int) := by omega
          have hgl2 : g ≠ wr.heap.size := by omega
          have hql2 : q ≠ wr.heap.size := by omega
          have HRB : Hid (∀ W, Below wr.heap.size wr W → W.cell? ⟨q, 0, none⟩ = some (.slice (some ⟨g, 0, none⟩) M cap) ∧ W.cell? ⟨g, K * 3 + 1, none⟩ = some (.int .i64 (el L K).n)) := fun W hb =>
            ⟨(hb.cell (p := ⟨q, 0, none⟩) (by show q < _; omega)).trans hqc, (hb.cell (p := ⟨g, K * 3 + 1, none⟩) (by show g < _; omega)).trans e0⟩
          rw [hB] at hst ⊢
          rw [Int.toNat_natCast] at hst
          generalize (el L K).n = y at hst e0 HRB
          by_cases hy : m < y
          · have e1 : bst n a L (k + 1) = k := by rw [hst, if_pos ⟨rfl, .inr hy⟩]
            have HE := Lib.hid e1
            have hdy : decide (m < y) = true := by simpa using hy
            clear hst e1 hrow hf hB hy
            go_wp2_with fail
            refine region_in (fun W => Below (wr.alloc (.cells #[.int .i64 p, .int .i64 m, .bool t] 108)).heap.size (wr.alloc (.cells #[.int .i64 p, .int .i64 m, .bool t] 108)) W) (by kernel_rfl) (by kernel_rfl) (Below.refl _ _).drew ?_
            intro ι ine f hS hT
            have HS := Lib.hid hS
            have s0 : ∀ n, (f n).cell? ⟨wr.heap.size, 0, none⟩ = some (.int .i64 p) := fun n => (box3 (HS.out n)).1
            have s1 : ∀ n, (f n).cell? ⟨wr.heap.size, 1, none⟩ = some (.int .i64 m) := fun n => (box3 (HS.out n)).2.1
            have s2 : ∀ n, (f n).cell? ⟨wr.heap.size, 2, none⟩ = some (.bool t) := fun n => (box3 (HS.out n)).2.2.1
            have s3 : ∀ n, (f n).cell? ⟨q, 0, none⟩ = some (.slice (some ⟨g, 0, none⟩) M cap) := fun n => (HRB.out _ (box3 (HS.out n)).2.2.2).1
            have s4 : ∀ n, (f n).cell? ⟨g, K * 3 + 1, none⟩ = some (.int .i64 y) := fun n => (HRB.out _ (box3 (HS.out n)).2.2.2).2
            have HC := Lib.hid (fun n => (HFk.out (f n) (up_trans HBA.out (hS n))).mono fun e w' ⟨he, hb⟩ => show _ ∧ ∃ j, w' = f j from ⟨he, hT w' (up_trans (hS n) hb)⟩)
            clear hS hT
            repeat (go_big_quiet_step ((go_at_call 160; exact HC.out _)))
            refine wpQuiet_nil ?_
            rintro _ ⟨n1, rfl⟩
            have b3 := (box3 (HS.out n1)).2.2.2
            have HB2 := Lib.hid (up_trans HB.out b3)
            go_wp2
            go_roundw
            case rel => exact ⟨k + 1, by omega, by go_num, by rw [HE.out], HB2.out⟩
            case measure => simp [intOf]; omega
          · have e1 : bst n a L (k + 1) = K := by rw [hst, if_neg (by simp; omega)]
            have HE := Lib.hid e1
            have hdy : decide (m < y) = false := by simpa using hy
            clear hst e1 hrow hf hB hy
            go_wp2_with fail
            refine region_in (fun W => Below (wr.alloc (.cells #[.int .i64 p, .int .i64 m, .bool t] 108)).heap.size (wr.alloc (.cells #[.int .i64 p, .int .i64 m, .bool t] 108)) W) (by kernel_rfl) (by kernel_rfl) (Below.refl _ _).drew ?_
            intro ι ine f hS hT
            have HS := Lib.hid hS
            have s0 : ∀ n, (f n).cell? ⟨wr.heap.size, 0, none⟩ = some (.int .i64 p) := fun n => (box3 (HS.out n)).1
            have s1 : ∀ n, (f n).cell? ⟨wr.heap.size, 1, none⟩ = some (.int .i64 m) := fun n => (box3 (HS.out n)).2.1
            have s2 : ∀ n, (f n).cell? ⟨wr.heap.size, 2, none⟩ = some (.bool t) := fun n => (box3 (HS.out n)).2.2.1
            have s3 : ∀ n, (f n).cell? ⟨q, 0, none⟩ = some (.slice (some ⟨g, 0, none⟩) M cap) := fun n => (HRB.out _ (box3 (HS.out n)).2.2.2).1
            have s4 : ∀ n, (f n).cell? ⟨g, K * 3 + 1, none⟩ = some (.int .i64 y) := fun n => (HRB.out _ (box3 (HS.out n)).2.2.2).2
            have HC := Lib.hid (fun n => (HFk.out (f n) (up_trans HBA.out (hS n))).mono fun e w' ⟨he, hb⟩ => show _ ∧ ∃ j, w' = f j from ⟨he, hT w' (up_trans (hS n) hb)⟩)
            clear hS hT
            repeat (go_big_quiet_step ((go_at_call 160; exact HC.out _)))
            refine wpQuiet_nil ?_
            rintro _ ⟨n1, rfl⟩
            have b3 := (box3 (HS.out n1)).2.2.2
            have HB2 := Lib.hid (up_trans HB.out b3)
            go_wp2
            go_roundw
            case rel => exact ⟨k + 1, by omega, by go_num, by rw [HE.out], HB2.out⟩
            case measure => simp [intOf]; omega
    · obtain rfl : k = M := by omega
      go_wp2
      go_ret
      exact ⟨rfl, HB.out⟩
end Go.Proofs.YtckcgaliphpgeaaGreatDoor.Sp

/-
  How pages are taken: contracts that the claimed proofs use.
-/
namespace Go.Proofs.YtckcgaliphpgeaaGreatDoor.Sp
set_option maxRecDepth 100000
open Go.RowKit

/-- Three runs in the place of one. -/
def three (p m u n : Int) : List Rn := [⟨p, u - p, false⟩, ⟨u, n, true⟩, ⟨u + n, p + m - (u + n), false⟩]
theorem four (w : World) (a b c d : List Value) :
    Blk ((((w.alloc (.cells a.toArray 108)).alloc (.cells b.toArray 108)).alloc (.cells c.toArray 108)).alloc (.cells d.toArray 108)) (w.heap.size + 1) b 108 ∧
    Blk ((((w.alloc (.cells a.toArray 108)).alloc (.cells b.toArray 108)).alloc (.cells c.toArray 108)).alloc (.cells d.toArray 108)) (w.heap.size + 1 + 1) c 108 ∧
    Blk ((((w.alloc (.cells a.toArray 108)).alloc (.cells b.toArray 108)).alloc (.cells c.toArray 108)).alloc (.cells d.toArray 108)) (w.heap.size + 1 + 1 + 1) d 108 ∧
    Below w.heap.size w ((((w.alloc (.cells a.toArray 108)).alloc (.cells b.toArray 108)).alloc (.cells c.toArray 108)).alloc (.cells d.toArray 108)) := by
  have h1 : Blk ((w.alloc (.cells a.toArray 108)).alloc (.cells b.toArray 108)) (w.heap.size + 1) b 108 := by
    have := heap_alloc_new (w.alloc (.cells a.toArray 108)) (.cells b.toArray 108)
    rwa [World.size_alloc] at this
  have h2 : Blk (((w.alloc (.cells a.toArray 108)).alloc (.cells b.toArray 108)).alloc (.cells c.toArray 108)) (w.heap.size + 1 + 1) c 108 := by
    have := heap_alloc_new ((w.alloc (.cells a.toArray 108)).alloc (.cells b.toArray 108)) (.cells c.toArray 108)
    rwa [World.size_alloc, World.size_alloc] at this
  have h3 : Blk ((((w.alloc (.cells a.toArray 108)).alloc (.cells b.toArray 108)).alloc (.cells c.toArray 108)).alloc (.cells d.toArray 108)) (w.heap.size + 1 + 1 + 1) d 108 := by
    have := heap_alloc_new (((w.alloc (.cells a.toArray 108)).alloc (.cells b.toArray 108)).alloc (.cells c.toArray 108)) (.cells d.toArray 108)
    rwa [World.size_alloc, World.size_alloc, World.size_alloc] at this
  have h1' := h1.of (heap_alloc_old _ (.cells c.toArray 108) h1.lt)
  exact ⟨h1'.of (heap_alloc_old _ _ h1'.lt), h2.of (heap_alloc_old _ _ h2.lt), h3, up_alloc (up_alloc (up_alloc (up_alloc (Below.refl _ w) _) _) _) _⟩
set_option maxHeartbeats 2000000 in
theorem split_any {w : World} {q g k : Nat} {N u n p m : Int} {t : Bool} {L : List Rn} (h : Sp w q g L) (hw : WF N L) (hN : N ≤ 4096) (hk : k < L.length) (hr : el L k = ⟨p, m, t⟩) (h1 : p ≤ u) (hn : 1 ≤ n) (h2 : u + n ≤ p + m) :
    Calls Tryz.prog 125 #[.pointer (some ⟨q, 0, none⟩), .int .i64 (k : Int), .int .i64 u, .int .i64 n] w fun e w' => e = .returned (.tuple #[]) ∧ Became q g (takeL L k u n) w w' := by
  have hbd := hw.bds hN hk
  rw [hr] at hbd
  dsimp only at hbd
  have hlen : L.length ≤ 4096 := by have := hw.len; omega
  have HW := Lib.hid hw
  have HS := Lib.hid h
  obtain ⟨cap, hq, hrw, hne⟩ := h
  have hql := hq.lt
  have c0 : w.cell? ⟨q, 0, none⟩ = some (.slice (some ⟨g, 0, none⟩) L.length cap) := hq.cell
  obtain ⟨r0, r1, r2⟩ := hrw.cells hk
  rw [hr] at r0 r1 r2
  dsimp only at r0 r1 r2
  obtain ⟨M, hM⟩ : ∃ M, L.length = M := ⟨_, rfl⟩
  have HM := Lib.hid hM
  have HQ := Lib.hid hq
  have HRW := Lib.hid hrw
  have HNE := Lib.hid hne
  have HR := Lib.hid hr
  rw [hM] at hk hlen c0 HQ
  have b0 : (0 : Int) ≤ (k : Int) := by omega
  have b1 : (k : Int) < (M : Int) := by omega
  clear hw hq hrw hne hM hr
  go_enter Tryz.func125, Tryz.ntmps125
  go_wp2_with fail
  obtain ⟨x1, x2, x3, hb⟩ := four w [.int .i64 p, .int .i64 m, .bool t] [.int .i64 p, .int .i64 (u - p), .bool false] [.int .i64 u, .int .i64 n, .bool true] [.int .i64 (u + n), .int .i64 (p + m - (u + n)), .bool false]
  have S2 := HS.out.below hb
  generalize (((w.alloc (.cells [.int .i64 p, .int .i64 m, .bool t].toArray 108)).alloc (.cells [.int .i64 p, .int .i64 (u - p), .bool false].toArray 108)).alloc (.cells [.int .i64 u, .int .i64 n, .bool true].toArray 108)).alloc (.cells [.int .i64 (u + n), .int .i64 (p + m - (u + n)), .bool false].toArray 108) = W at x1 x2 x3 hb S2 ⊢
  have Q2 := HQ.out.of (hb.block _ HQ.out.lt)
  have R2 := HRW.out.below hb
  have d0 : W.cell? ⟨q, 0, none⟩ = some (.slice (some ⟨g, 0, none⟩) M cap) := Q2.cell
  have y0 : W.cell? ⟨w.heap.size + 1, 0, none⟩ = some (.int .i64 p) := x1.cell
  have y1 : W.cell? ⟨w.heap.size + 1, 1, none⟩ = some (.int .i64 (u - p)) := x1.cell
  have y2 : W.cell? ⟨w.heap.size + 1, 2, none⟩ = some (.bool false) := x1.cell
  have y3 : W.cell? ⟨w.heap.size + 1 + 1, 0, none⟩ = some (.int .i64 u) := x2.cell
  have y4 : W.cell? ⟨w.heap.size + 1 + 1, 1, none⟩ = some (.int .i64 n) := x2.cell
  have y5 : W.cell? ⟨w.heap.size + 1 + 1, 2, none⟩ = some (.bool true) := x2.cell
  have y6 : W.cell? ⟨w.heap.size + 1 + 1 + 1, 0, none⟩ = some (.int .i64 (u + n)) := x3.cell
  have y7 : W.cell? ⟨w.heap.size + 1 + 1 + 1, 1, none⟩ = some (.int .i64 (p + m - (u + n))) := x3.cell
  have y8 : W.cell? ⟨w.heap.size + 1 + 1 + 1, 2, none⟩ = some (.bool false) := x3.cell
  have HB := Lib.hid hb
  have HS2 := Lib.hid S2
  have HR2 := Lib.hid R2
  have HQ2 := Lib.hid Q2
  have hsz := hb.size
  clear c0 r0 r1 r2 x1 x2 x3 hb S2 Q2 R2
  have hbd2 : Below W.heap.size W (W.alloc (.cells (rcs (three p m u n)).toArray 108)).drew := (up_alloc (Below.refl _ W) _).drew
  have hV : Blk (W.alloc (.cells (rcs (three p m u n)).toArray 108)).drew W.heap.size (rcs (three p m u n)) 108 := heap_alloc_new W _
  have HREP := Lib.hid (rep_any (i := k) (V := three p m u n) (HR2.out.below hbd2) HM.out hk hlen hV rfl (by have := HR2.out.lt; omega))
  have HQ3 := Lib.hid (HQ2.out.of (hbd2.block _ HQ2.out.lt))
  have HB3 := Lib.hid (up_trans HB.out hbd2)
  have hql3 : q < (W.alloc (.cells (rcs (three p m u n)).toArray 108)).drew.heap.size := HQ3.out.lt
  have hqW := HQ2.out.lt
  have hrc : rcs (three p m u n) = [.int .i64 p, .int .i64 (u - p), .bool false, .int .i64 u, .int .i64 n, .bool true, .int .i64 (u + n), .int .i64 (p + m - (u + n)), .bool false] := rfl
  rw [hrc] at HREP HQ3 HB3 hql3
  clear hbd2 hV hrc
  have hn1 : q ≠ W.heap.size := by omega
  have hn2 : w.heap.size + 1 ≠ W.heap.size := by have := World.block_lt_of_cell? W _ y0; dsimp only at this; omega
  have hn3 : w.heap.size + 1 + 1 ≠ W.heap.size := by have := World.block_lt_of_cell? W _ y3; dsimp only at this; omega
  have hn4 : w.heap.size + 1 + 1 + 1 ≠ W.heap.size := by have := World.block_lt_of_cell? W _ y6; dsimp only at this; omega
  have hwk := i64_in ((k : Int) + 1) (by omega) (by omega)
  have hspl : splL L k u n = L.take k ++ (three p m u n ++ L.drop (k + 1)) := by unfold splL three; rw [HR.out]
  have hll : (L.take k ++ (three p m u n ++ L.drop (k + 1))).length = M + 2 := by simp [HM.out, three]; omega
  have HLL := Lib.hid hll
  have HSPL := Lib.hid hspl
  clear hspl hll
  go_cut [54] (fun _ wx => ∃ g', Sp wx q g' (splL L k u n) ∧ Fr q g w wx ∧ (g' = g ∨ w.heap.size ≤ g'))
  case first =>
    go_region_law (go_simp; go_at_call 162; refine HREP.out.mono ?_; rintro e w5 ⟨g', cap', rfl, r5, g5, o5⟩; have q5 := HQ3.out.of (g5.block q HQ3.out.lt (by simpa using HNE.out)); have c5 : w5.cell? ⟨q, 0, none⟩ = some (.slice (some ⟨g, 0, none⟩) M cap) := q5.cell; have f5 := q5.frozen 0; have HG5 := Lib.hid g5; have HR5 := Lib.hid r5; have HO5 := Lib.hid o5; have HQ5 := Lib.hid q5; clear g5 r5 o5 q5)
    all_goals (go_wp2_with fail; go_meet)
    all_goals
      have hgl := HR2.out.lt
      have hg' : g' = g ∨ W.heap.size < g' := by
        rcases HO5.out with h | h
        · exact .inl h
        · right; have : W.heap.size + 1 ≤ g' := by simpa [World.drew] using h
          omega
      have hqg : q ≠ g' := by
        rcases hg' with h | h
        · rw [h]; exact HNE.out
        · omega
      refine ⟨g', ⟨cap', ?_, ?_, hqg⟩, ?_, ?_⟩
      · rw [HSPL.out, HLL.out]; exact HQ5.out.set _
      · rw [HSPL.out]; exact HR5.out.of (Below.heap_setCell _ _ _ _ (fun e => hqg e.symm))
      · exact ((Fr.of HB3.out : Fr q g _ _).trans (Fr.ofg HG5.out) (.inl rfl)).trans (Fr.ofq (grown_set _ _ _ _)) (.inl rfl)
      · rcases hg' with h | h
        · exact .inl h
        · right; omega
  case rest =>
  obtain ⟨g', s6, f6, o6⟩ := hcut
  have hl6 : (splL L k u n).length ≤ 8192 := by rw [HSPL.out, HLL.out]; omega
  have HLV := Lib.hid (leave_any s6 hl6)
  have F6 := Lib.hid f6
  have O6 := Lib.hid o6
  clear s6 f6 o6 hl6
  go_wp2_with fail
  refine HLV.out.mono ?_
  rintro e w7 ⟨rfl, s7, f7⟩
  have S7 := Lib.hid s7
  have F7 := Lib.hid (F6.out.trans f7 O6.out)
  clear s7 f7 HLV
  go_wp2
  go_end0
  exact ⟨rfl, g', S7.out, F7.out, O6.out⟩
end Go.Proofs.YtckcgaliphpgeaaGreatDoor.Sp

/-
  How spans are given back: contracts that the claimed proofs use.
-/
namespace Go.Proofs.YtckcgaliphpgeaaGreatDoor.Sp
set_option maxRecDepth 100000
open Go.RowKit

theorem join_neg (q : Nat) (s : Int) (w : World) : Calls Tryz.prog 131 #[.pointer (some ⟨q, 0, none⟩), .int .i64 (-1), .int .i64 s] w fun e w' => e = .returned (.tuple #[]) ∧ w = w' := by
  go_enter Tryz.func131, Tryz.ntmps131
  go_wp2
  refine bodyPost_ret (results_none rfl _ _ _) rfl ?_
  exact ⟨rfl, rfl⟩
theorem join_no {w : World} {q g f s : Nat} {L : List Rn} (h : Sp w q g L) (hf : f < L.length) (_hl : L.length ≤ 8192) (hc : ¬ (s < L.length ∧ (el L f).t = false ∧ (el L s).t = false)) :
    Calls Tryz.prog 131 #[.pointer (some ⟨q, 0, none⟩), .int .i64 (f : Int), .int .i64 (s : Int)] w fun e w' => e = .returned (.tuple #[]) ∧ w = w' := by
  obtain ⟨cap, hq, hr, hne⟩ := h
  have c0 : w.cell? ⟨q, 0, none⟩ = some (.slice (some ⟨g, 0, none⟩) L.length cap) := hq.cell
  have f2 := (hr.cells hf).2.2
  have d0 : decide ((f : Int) < 0) = false := by simp
  have b2 : (f : Int) < (L.length : Int) := by omega
  by_cases hs : s < L.length
  · have s2 := (hr.cells hs).2.2
    have d1 : decide ((L.length : Int) ≤ (s : Int)) = false := by simp; omega
    have b1 : (s : Int) < (L.length : Int) := by omega
    generalize L.length = n at *
    cases hft : (el L f).t with
    | true =>
      rw [hft] at f2
      clear hq hr hne hc s2
      go_enter Tryz.func131, Tryz.ntmps131
      go_wp2
      refine bodyPost_ret (results_none rfl _ _ _) rfl ?_
      exact ⟨rfl, rfl⟩
    | false =>
      have hst : (el L s).t = true := by
        cases hst : (el L s).t with
        | true => rfl
        | false => exact absurd ⟨hs, hft, hst⟩ hc
      rw [hft] at f2
      rw [hst] at s2
      clear hq hr hne hc
      go_enter Tryz.func131, Tryz.ntmps131
      go_wp2
      refine bodyPost_ret (results_none rfl _ _ _) rfl ?_
      exact ⟨rfl, rfl⟩
  · have d1 : decide ((L.length : Int) ≤ (s : Int)) = true := by simp; omega
    generalize L.length = n at *
    clear hq hr hne hc f2
    go_enter Tryz.func131, Tryz.ntmps131
    go_wp2
    refine bodyPost_ret (results_none rfl _ _ _) rfl ?_
    exact ⟨rfl, rfl⟩
set_option maxHeartbeats 2000000 in
theorem join_yes {w : World} {q g f s : Nat} {L : List Rn} (h : Sp w q g L) (hf : f < L.length) (hfs : f ≠ s) (_hl : L.length ≤ 8192) (hs : s < L.length) (hft : (el L f).t = false) (hst : (el L s).t = false)
    (hb1 : 0 ≤ (el L f).n ∧ (el L f).n ≤ 8192) (hb2 : 0 ≤ (el L s).n ∧ (el L s).n ≤ 8192) :
    Calls Tryz.prog 131 #[.pointer (some ⟨q, 0, none⟩), .int .i64 (f : Int), .int .i64 (s : Int)] w fun e w' => e = .returned (.tuple #[]) ∧ Sp w' q g (joinL L f s) ∧ Fr q g w w' := by
  obtain ⟨cap, hq, hr, hne⟩ := h
  have c0 : w.cell? ⟨q, 0, none⟩ = some (.slice (some ⟨g, 0, none⟩) L.length cap) := hq.cell
  have hj : joinL L f s = (L.set s ⟨(el L f).p, (el L s).n + (el L f).n, false⟩).set f ⟨(el L f).p, 0, false⟩ := rfl
  have HJ := Lib.hid hj
  have HQ := Lib.hid hq
  have HR := Lib.hid hr
  have HNE := Lib.hid hne
  obtain ⟨n, hn⟩ : ∃ n, L.length = n := ⟨_, rfl⟩
  have HN := Lib.hid hn
  rw [hn] at c0 hf hs _hl HQ
  obtain ⟨u, hu⟩ : ∃ u, el L f = u := ⟨_, rfl⟩
  obtain ⟨v, hv⟩ : ∃ v, el L s = v := ⟨_, rfl⟩
  rw [hu] at hft hb1 HJ
  rw [hv] at hst hb2 HJ
  obtain ⟨p, m, t⟩ := u
  obtain ⟨p2, m2, t2⟩ := v
  dsimp only at hft hst hb1 hb2 HJ
  subst hft hst
  have HU := Lib.hid hu
  have HV := Lib.hid hv
  obtain ⟨f0, f1, f2⟩ := hr.cells (i := f) (by omega)
  obtain ⟨s0, s1, s2⟩ := hr.cells (i := s) (by omega)
  rw [hu] at f0 f1 f2
  rw [hv] at s0 s1 s2
  dsimp only at f0 f1 f2 s0 s1 s2
  have z0 := hr.frozen (s * 3)
  have d0 : decide ((f : Int) < 0) = false := by simp
  have d1 : decide ((n : Int) ≤ (s : Int)) = false := by simp; omega
  have b1 : (s : Int) < (n : Int) := by omega
  have b2 : (f : Int) < (n : Int) := by omega
  have b3 : (0 : Int) ≤ (s : Int) := by omega
  have b4 : (0 : Int) ≤ (f : Int) := by omega
  have hwr := i64_in (m2 + m) (by omega) (by omega)
  have R1 : Rw (w.setCell ⟨g, s * 3, none⟩ (.int .i64 p)).drew g cap (L.set s ⟨p, m2, false⟩) := (hr.set (i := s) (by omega) (k := 0) (by omega) ⟨p, m2, false⟩ (.int .i64 p) (by rw [hv]; rfl)).below (Below.refl _ _).drew
  have G1 : w.grownBy (w.setCell ⟨g, s * 3, none⟩ (.int .i64 p)).drew (some g) := grown_trans (grown_set _ _ _ _) (grown_below (Below.refl _ _).drew)
  clear hq hr hne hn hj hu hv
  go_enter Tryz.func131, Tryz.ntmps131
  go_wp2_with fail
  go_still_tail 15, (by kernel_rfl)
  change wpList _ _ _ _ _ w.drew
  go_wp2_with fail
  generalize (w.setCell ⟨g, s * 3, none⟩ (.int .i64 p)).drew = W1 at R1 G1 ⊢
  have Q1 := HQ.out.of (G1.block q HQ.out.lt (by simpa using HNE.out))
  have c1 : W1.cell? ⟨q, 0, none⟩ = some (.slice (some ⟨g, 0, none⟩) n cap) := Q1.cell
  obtain ⟨g0, g1, g2⟩ := R1.cells (i := f) (by rw [List.length_set, HN.out]; omega)
  obtain ⟨t0, t1, t2⟩ := R1.cells (i := s) (by rw [List.length_set, HN.out]; omega)
  rw [el_set _ hfs, HU.out] at g0 g1 g2
  rw [el_same _ (by rw [HN.out]; omega)] at t0 t1 t2
  dsimp only at g0 g1 g2 t0 t1 t2
  have z1 := R1.frozen (s * 3 + 1)
  have z3 := R1.frozen (f * 3 + 1)
  have R3 : Rw ((W1.setCell ⟨g, s * 3 + 1, none⟩ (.int .i64 (m2 + m))).setCell ⟨g, f * 3 + 1, none⟩ (.int .i64 0)).drew g cap (joinL L f s) := by
    have := R1.set (i := s) (by rw [List.length_set, HN.out]; omega) (k := 1) (by omega) ⟨p, m2 + m, false⟩ (.int .i64 (m2 + m)) (by rw [el_same _ (by rw [HN.out]; omega)]; rfl)
    rw [List.set_set] at this
    have := (this.set (i := f) (by rw [List.length_set, HN.out]; omega) (k := 1) (by omega) ⟨p, 0, false⟩ (.int .i64 0) (by rw [el_set _ hfs, HU.out]; rfl)).below (Below.refl _ _).drew
    rw [HJ.out]; exact this
  have G3 : w.grownBy ((W1.setCell ⟨g, s * 3 + 1, none⟩ (.int .i64 (m2 + m))).setCell ⟨g, f * 3 + 1, none⟩ (.int .i64 0)).drew (some g) := grown_trans (grown_trans (grown_trans G1 (grown_set _ _ _ _)) (grown_set _ _ _ _)) (grown_below (Below.refl _ _).drew)
  have R3 := Lib.hid R3
  have G3 := Lib.hid G3
  have hlj : (joinL L f s).length = n := by rw [HJ.out]; simp [HN.out]
  have HLJ := Lib.hid hlj
  have hsf : s ≠ f := fun e => hfs e.symm
  have ho1 : f * 3 + 1 ≠ s * 3 + 1 := by omega
  have ho2 : s * 3 + 1 ≠ f * 3 + 1 := by omega
  clear c0 f0 f1 f2 s0 s1 s2 z0 R1 G1 Q1 hlj
  go_still_tail 19, (by kernel_rfl)
  change wpList _ _ _ _ _ W1.drew
  go_wp2
  go_end0
  refine ⟨rfl, ⟨cap, ?_, R3.out, HNE.out⟩, Fr.ofg G3.out⟩
  rw [HLJ.out]
  exact HQ.out.of (G3.out.block q HQ.out.lt (by simpa using HNE.out))
theorem join_any {w : World} {q g f s : Nat} {L : List Rn} (h : Sp w q g L) (hf : f < L.length) (hfs : f ≠ s) (hl : L.length ≤ 8192)
    (hb1 : 0 ≤ (el L f).n ∧ (el L f).n ≤ 8192) (hb2 : s < L.length → 0 ≤ (el L s).n ∧ (el L s).n ≤ 8192) :
    Calls Tryz.prog 131 #[.pointer (some ⟨q, 0, none⟩), .int .i64 (f : Int), .int .i64 (s : Int)] w fun e w' => e = .returned (.tuple #[]) ∧ Sp w' q g (joinB L f s) ∧ Fr q g w w' := by
  unfold joinB
  by_cases hc : s < L.length ∧ (el L f).t = false ∧ (el L s).t = false
  · rw [if_pos hc]
    exact join_yes h hf hfs hl hc.1 hc.2.1 hc.2.2 hb1 (hb2 hc.1)
  · rw [if_neg hc]
    refine (join_no h hf hl hc).mono ?_
    rintro e w' ⟨he, rfl⟩
    exact ⟨he, h, Fr.refl _ _ _⟩
theorem joinB_len (L : List Rn) (f s : Nat) : (joinB L f s).length = L.length := by
  unfold joinB; split
  · unfold joinL; simp
  · rfl
theorem joinB_n {M : List Rn} {f s : Nat} (hfs : f ≠ s) : (el (joinB M f s) s).n = (el M s).n ∨ (el (joinB M f s) s).n = (el M s).n + (el M f).n := by
  unfold joinB; split
  · next hc =>
    right
    unfold joinL
    rw [el_set _ (fun e => hfs e.symm), el_same _ hc.1]
  · left; rfl
theorem joinB_far {M : List Rn} {f s m : Nat} (h1 : m ≠ f) (h2 : m ≠ s) : el (joinB M f s) m = el M m := by
  unfold joinB; split
  · unfold joinL; rw [el_set _ h1, el_set _ h2]
  · rfl
end Go.Proofs.YtckcgaliphpgeaaGreatDoor.Sp

/-
  What Give does: contracts that the claimed proofs use.
-/
namespace Go.Proofs.YtckcgaliphpgeaaGreatDoor.Sp
set_option maxRecDepth 100000
open Go.RowKit

theorem first_join {w : World} {q g k : Nat} {L : List Rn} (h : Sp w q g L) (hk : k < L.length) (hl : L.length ≤ 8192) (hb : 0 ≤ (el L k).n ∧ (el L k).n ≤ 8192) (hb2 : k ≠ 0 → 0 ≤ (el L (k - 1)).n ∧ (el L (k - 1)).n ≤ 8192) :
    Calls Tryz.prog 131 #[.pointer (some ⟨q, 0, none⟩), .int .i64 ((k : Int) - 1), .int .i64 (k : Int)] w fun e w' => e = .returned (.tuple #[]) ∧ Sp w' q g (if k = 0 then L else joinB L (k - 1) k) ∧ Fr q g w w' := by
  by_cases h0 : k = 0
  · subst h0
    rw [if_pos rfl]
    refine (join_neg q ((0 : Nat) : Int) w).mono ?_
    rintro e w' ⟨he, rfl⟩
    exact ⟨he, h, Fr.refl _ _ _⟩
  · rw [if_neg h0]
    have := join_any (f := k - 1) (s := k) h (by omega) (by omega) hl (hb2 h0) (fun _ => hb)
    rwa [show ((k - 1 : Nat) : Int) = (k : Int) - 1 by omega] at this
set_option maxHeartbeats 2000000 in
theorem give_yes {w : World} {q g k : Nat} {N x : Int} {L : List Rn} (h : Sp w q g L) (hw : WF N L) (hN : N ≤ 4096) (hk : k < L.length) (hp : (el L k).p = x) (ht : (el L k).t = true) :
    Calls Tryz.prog 85 #[.pointer (some ⟨q, 0, none⟩), .int .i64 x] w fun e w' => e = .returned (.tuple #[.int .i64 (el L k).n, .int .i64 0]) ∧ Sp w' q g (giveL L k) ∧ Fr q g w w' := by
  have hc := chain_at hw.chain hk
  have hlen : L.length ≤ 4096 := by have := hw.len; omega
  have HI := Lib.hid (index_yes h hw hN hk (by omega : (el L k).p ≤ x) (by omega))
  obtain ⟨cap, hq, hr, hne⟩ := h
  have HQ := Lib.hid hq
  have HR := Lib.hid hr
  have HNE := Lib.hid hne
  have HW := Lib.hid hw
  obtain ⟨M, hM⟩ : ∃ M, L.length = M := ⟨_, rfl⟩
  have HM := Lib.hid hM
  rw [hM] at hk hlen HQ
  obtain ⟨r, hrr⟩ : ∃ r, el L k = r := ⟨_, rfl⟩
  rw [hrr] at hp ht ⊢
  obtain ⟨p, n, t⟩ := r
  dsimp only at hp ht ⊢
  subst hp ht
  have HE := Lib.hid hrr
  have hk0 : ((k : Int) == -1) = false := by simp
  have b1 : (k : Int) < (M : Int) := by omega
  have b0 : (0 : Int) ≤ (k : Int) := by omega
  clear hq hr hne hM hrr hw hc
  go_enter Tryz.func85, Tryz.ntmps85
  go_wp2_with fail
  refine HI.out.mono ?_
  rintro e w1 ⟨rfl, d1⟩
  have Q1 := Lib.hid (HQ.out.of (d1.block _ HQ.out.lt))
  have R1 := Lib.hid (HR.out.below d1)
  have c1 : w1.cell? ⟨q, 0, none⟩ = some (.slice (some ⟨g, 0, none⟩) M cap) := Q1.out.cell
  obtain ⟨r0, r1, r2⟩ := R1.out.cells (i := k) (by rw [HM.out]; exact hk)
  have z2 := R1.out.frozen (k * 3 + 2)
  rw [HE.out] at r0 r1 r2
  dsimp only at r0 r1 r2
  have D1 := Lib.hid d1
  clear d1 HI
  have hpp : (p != p) = false := by simp
  have R2 : Rw (w1.setCell ⟨g, k * 3 + 2, none⟩ (.bool false)) g cap (L.set k ⟨p, n, false⟩) := R1.out.set (i := k) (by rw [HM.out]; exact hk) (k := 2) (by omega) ⟨p, n, false⟩ (.bool false) (by rw [HE.out]; rfl)
  have G2 := grown_set w1 g (k * 3 + 2) (.bool false)
  have S2 : Sp (w1.setCell ⟨g, k * 3 + 2, none⟩ (.bool false)) q g (L.set k ⟨p, n, false⟩) := ⟨cap, by rw [List.length_set, HM.out]; exact Q1.out.of (G2.block q Q1.out.lt (by simpa using HNE.out)), R2, HNE.out⟩
  have HS2 := Lib.hid S2
  have F2 := Lib.hid ((Fr.of D1.out : Fr q g _ _).trans (Fr.ofg G2) (.inl rfl))
  have hln : (el L k).n = n := by rw [HE.out]
  have HJ1 := Lib.hid (first_join S2 (by rw [List.length_set, HM.out]; exact hk) (by rw [List.length_set, HM.out]; omega) (by rw [el_same _ (by rw [HM.out]; exact hk)]; have := HW.out.bds hN (k := k) (by rw [HM.out]; exact hk); dsimp only; omega)
    (fun h0 => by rw [el_set _ (by omega)]; have := HW.out.bds hN (k := k - 1) (by rw [HM.out]; omega); omega))
  clear R2 G2 S2
  go_wp2_with fail
  refine HJ1.out.mono ?_
  rintro e w2 ⟨rfl, s2, f2⟩
  have hbk : 0 ≤ (el (if k = 0 then L.set k ⟨p, n, false⟩ else joinB (L.set k ⟨p, n, false⟩) (k - 1) k) k).n ∧ (el (if k = 0 then L.set k ⟨p, n, false⟩ else joinB (L.set k ⟨p, n, false⟩) (k - 1) k) k).n ≤ 8192 := by
    have hb := HW.out.bds hN (k := k) (by rw [HM.out]; exact hk)
    have e1 : (el (L.set k ⟨p, n, false⟩) k).n = n := by rw [el_same _ (by rw [HM.out]; exact hk)]
    split
    · rw [e1]; omega
    · next h0 =>
      have hb' := HW.out.bds hN (k := k - 1) (by rw [HM.out]; omega)
      have e2 : (el (L.set k ⟨p, n, false⟩) (k - 1)).n = (el L (k - 1)).n := by rw [el_set _ (by omega)]
      rcases joinB_n (M := L.set k ⟨p, n, false⟩) (f := k - 1) (s := k) (by omega) with h | h <;> rw [h] <;> rw [e1] <;> omega
  have hbs : k + 1 < M → 0 ≤ (el (if k = 0 then L.set k ⟨p, n, false⟩ else joinB (L.set k ⟨p, n, false⟩) (k - 1) k) (k + 1)).n ∧ (el (if k = 0 then L.set k ⟨p, n, false⟩ else joinB (L.set k ⟨p, n, false⟩) (k - 1) k) (k + 1)).n ≤ 8192 := by
    intro hlt
    have hb := HW.out.bds hN (k := k + 1) (by rw [HM.out]; exact hlt)
    split
    · rw [el_set _ (by omega)]; omega
    · rw [joinB_far (by omega) (by omega), el_set _ (by omega)]; omega
  have hl2 : (if k = 0 then L.set k ⟨p, n, false⟩ else joinB (L.set k ⟨p, n, false⟩) (k - 1) k).length = M := by
    split
    · rw [List.length_set, HM.out]
    · rw [joinB_len, List.length_set, HM.out]
  have hg : giveL L k = (joinB (if k = 0 then L.set k ⟨p, n, false⟩ else joinB (L.set k ⟨p, n, false⟩) (k - 1) k) k (k + 1)).filter ne := by
    unfold giveL; rw [HE.out]
  have HG := Lib.hid hg
  generalize (if k = 0 then L.set k ⟨p, n, false⟩ else joinB (L.set k ⟨p, n, false⟩) (k - 1) k) = L2 at s2 hbk hbs hl2 HG
  have HJ2 := join_any (f := k) (s := k + 1) s2 (by rw [hl2]; exact hk) (by omega) (by rw [hl2]; omega) hbk (fun h => hbs (by rw [← hl2]; exact h))
  rw [Int.natCast_add] at HJ2
  have HJ2 := Lib.hid HJ2
  have F3 := Lib.hid (F2.out.trans f2 (.inl rfl))
  have HL2 := Lib.hid hl2
  clear s2 f2 hbk hbs hl2 hg HJ1 F2 HS2
  go_wp2_with fail
  refine HJ2.out.mono ?_
  rintro e w3 ⟨rfl, s3, f3⟩
  have HL := Lib.hid (leave_any s3 (by rw [joinB_len, HL2.out]; omega))
  have F4 := Lib.hid (F3.out.trans f3 (.inl rfl))
  clear s3 f3 HJ2 F3
  go_wp2_with fail
  refine HL.out.mono ?_
  rintro e w4 ⟨rfl, s4, f4⟩
  have S4 := Lib.hid s4
  have F5 := Lib.hid (F4.out.trans f4 (.inl rfl))
  clear s4 f4 HL F4
  go_wp2
  go_ret2
  exact ⟨rfl, by rw [HG.out]; exact S4.out, F5.out⟩
/-- No span begins there. -/
theorem give_no {w : World} {q g : Nat} {N x : Int} {L : List Rn} (h : Sp w q g L) (hw : WF N L) (hN : N ≤ 4096) (hno : ∀ k, k < L.length → (el L k).p = x → (el L k).t = false) :
    Calls Tryz.prog 85 #[.pointer (some ⟨q, 0, none⟩), .int .i64 x] w fun e w' => e = .returned (.tuple #[.int .i64 0, .int .i64 12]) ∧ Below w.heap.size w w' := by
  by_cases hx : x < 0 ∨ N ≤ x
  · have HI := Lib.hid (index_no h hw hN hx)
    clear h hw hno hx
    go_enter Tryz.func85, Tryz.ntmps85
    go_wp2_with (go_at_call 112; refine HI.out.mono ?_; rintro e w1 ⟨rfl, d1⟩)
    go_ret2
    exact ⟨rfl, d1⟩
  · obtain ⟨k, hk, h1, h2⟩ := chain_find hw.chain (x := x) (by omega) (by omega)
    have HI := Lib.hid (index_yes h hw hN hk h1 h2)
    have hn := hno k hk
    obtain ⟨cap, hq, hr, hne⟩ := h
    have HQ := Lib.hid hq
    have HR := Lib.hid hr
    have HK := Lib.hid hk
    have hlen : L.length ≤ 4096 := by have := hw.len; omega
    have b1 : (k : Int) < (L.length : Int) := by omega
    obtain ⟨M, hM⟩ : ∃ M, L.length = M := ⟨_, rfl⟩
    rw [hM] at b1 hlen HQ
    obtain ⟨r, hrr⟩ : ∃ r, el L k = r := ⟨_, rfl⟩
    have HE := Lib.hid hrr
    rw [hrr] at hn
    obtain ⟨p, n, t⟩ := r
    dsimp only at hn
    have hk0 : ((k : Int) == -1) = false := by simp
    have b0 : (0 : Int) ≤ (k : Int) := by omega
    clear hq hr hne hw hno hx h1 h2 hk hrr hM
    by_cases hpx : p = x
    · have htf := hn hpx
      subst hpx htf
      have hpp : (p != p) = false := by simp
      clear hn
      go_enter Tryz.func85, Tryz.ntmps85
      go_wp2_with fail
      refine HI.out.mono ?_
      rintro e w1 ⟨rfl, d1⟩
      have c1 : w1.cell? ⟨q, 0, none⟩ = some (.slice (some ⟨g, 0, none⟩) M cap) := (HQ.out.of (d1.block _ HQ.out.lt)).cell
      obtain ⟨r0, r1, r2⟩ := (HR.out.below d1).cells HK.out
      rw [HE.out] at r0 r1 r2
      dsimp only at r0 r1 r2
      have D1 := Lib.hid d1
      clear d1 HI
      go_wp2
      go_ret2
      exact ⟨rfl, D1.out⟩
    · have hpp : (p != x) = true := by simpa using hpx
      clear hn
      go_enter Tryz.func85, Tryz.ntmps85
      go_wp2_with fail
      refine HI.out.mono ?_
      rintro e w1 ⟨rfl, d1⟩
      have c1 : w1.cell? ⟨q, 0, none⟩ = some (.slice (some ⟨g, 0, none⟩) M cap) := (HQ.out.of (d1.block _ HQ.out.lt)).cell
      obtain ⟨r0, r1, r2⟩ := (HR.out.below d1).cells HK.out
      rw [HE.out] at r0 r1 r2
      dsimp only at r0 r1 r2
      have D1 := Lib.hid d1
      clear d1 HI
      go_wp2
      go_ret2
      exact ⟨rfl, D1.out⟩
end Go.Proofs.YtckcgaliphpgeaaGreatDoor.Sp

/-
  What TakeAligned, Take and Give answer and leave: contracts that the claimed proofs use.
-/
namespace Go.Proofs.YtckcgaliphpgeaaGreatDoor.Sp
set_option maxRecDepth 100000
open Go.RowKit

/-! ### As plain functions -/
def tkv (L : List Rn) (n a : Int) : Int := if askB n a = true then (if bst n a L L.length = -1 then -1 else up (el L (bst n a L L.length).toNat).p a) else -1
def tke (L : List Rn) (n a : Int) : Int := if askB n a = true then (if bst n a L L.length = -1 then 13 else 0) else 11
def tkL (L : List Rn) (n a : Int) : List Rn := if askB n a = true then (if bst n a L L.length = -1 then L else takeL L (bst n a L L.length).toNat (up (el L (bst n a L L.length).toNat).p a) n) else L
/-- Where a span stands that begins at a page. -/
def gi (L : List Rn) (x : Int) : Nat := L.findIdx (fun r => r.p == x && r.t)
def gvv (L : List Rn) (x : Int) : Int := if gi L x < L.length then (el L (gi L x)).n else 0
def gve (L : List Rn) (x : Int) : Int := if gi L x < L.length then 0 else 12
def gvL (L : List Rn) (x : Int) : List Rn := if gi L x < L.length then giveL L (gi L x) else L
theorem askB_parts {n a : Int} (h : askB n a = true) : 1 ≤ n ∧ a ≤ 4096 ∧ powB a = true := by
  unfold askB at h
  simp only [Bool.and_eq_true, decide_eq_true_eq] at h
  exact ⟨h.1, h.2.1, h.2.2⟩
theorem fit_parts {n a : Int} {r : Rn} (h : fit n a r = true) : r.t = false ∧ up r.p a + n ≤ r.p + r.n := by
  unfold fit at h
  simp only [Bool.and_eq_true, Bool.not_eq_true', decide_eq_true_eq] at h
  exact ⟨h.1, by omega⟩
theorem gi_yes {L : List Rn} {x : Int} (h : gi L x < L.length) : (el L (gi L x)).p = x ∧ (el L (gi L x)).t = true := by
  have := List.findIdx_getElem (xs := L) (p := fun (r : Rn) => r.p == x && r.t) (w := h)
  have e : el L (gi L x) = L[gi L x] := el_is (List.getElem?_eq_getElem h)
  rw [e]
  simp only [Bool.and_eq_true, beq_iff_eq] at this
  exact this
theorem gi_no {L : List Rn} {x : Int} (h : ¬ gi L x < L.length) {k : Nat} (hk : k < L.length) (hp : (el L k).p = x) : (el L k).t = false := by
  cases ht : (el L k).t with
  | false => rfl
  | true =>
    have : gi L x < L.length := List.findIdx_lt_length_of_exists ⟨el L k, el_mem hk, by simp [hp, ht]⟩
    exact absurd this h
theorem gi_is {N : Int} {L : List Rn} {x : Int} (hw : WF N L) {k : Nat} (hk : k < L.length) (hp : (el L k).p = x) (ht : (el L k).t = true) : gi L x = k := by
  have hl : gi L x < L.length := List.findIdx_lt_length_of_exists ⟨el L k, el_mem hk, by simp [hp, ht]⟩
  have := gi_yes hl
  have h1 := chain_at hw.chain hk
  have h2 := chain_at hw.chain hl
  exact chain_one hw.chain hl hk (x := x) (by omega) (by omega) (by omega) (by omega)
theorem tk_wf {N : Int} {L : List Rn} (h : WF N L) (n a : Int) : WF N (tkL L n a) := by
  unfold tkL
  split
  · next ha =>
    obtain ⟨h1, h2, h3⟩ := askB_parts ha
    rcases bst_is n a L L.length with ⟨hb, _⟩ | ⟨k, hb, hk, hf⟩
    · rw [if_pos hb]; exact h
    · rw [hb, if_neg (by omega), Int.toNat_natCast]
      obtain ⟨f1, f2⟩ := fit_parts hf
      exact take_wf h hk f1 (up_spec _ (powB_bd h3).1).1 h1 f2
  · exact h
theorem gv_wf {N : Int} {L : List Rn} (h : WF N L) (x : Int) : WF N (gvL L x) := by
  unfold gvL
  split
  · next hl => exact give_wf h hl (gi_yes hl).2
  · exact h

/-! ### What the program does -/
theorem Became.refl {w : World} {q g : Nat} {L : List Rn} (h : Sp w q g L) : Became q g L w w := ⟨g, h, Fr.refl _ _ _, .inl rfl⟩
theorem Became.below {w w' : World} {q g : Nat} {L : List Rn} (h : Sp w q g L) (hb : Below w.heap.size w w') : Became q g L w w' := ⟨g, h.below hb, Fr.of hb, .inl rfl⟩
theorem Became.after {w w1 w' : World} {q g : Nat} {L' : List Rn} (hb : Below w.heap.size w w1) (h : Became q g L' w1 w') : Became q g L' w w' := by
  obtain ⟨g', s, f, o⟩ := h
  have := hb.size
  exact ⟨g', s, (Fr.of hb : Fr q g w w1).trans f (.inl rfl), by omega⟩
theorem given_any {w : World} {q g : Nat} {N : Int} {L : List Rn} (x : Int) (h : Sp w q g L) (hw : WF N L) (hN : N ≤ 4096) :
    Calls Tryz.prog 85 #[.pointer (some ⟨q, 0, none⟩), .int .i64 x] w fun e w' => e = .returned (.tuple #[.int .i64 (gvv L x), .int .i64 (gve L x)]) ∧ Became q g (gvL L x) w w' := by
  unfold gvv gve gvL
  by_cases hl : gi L x < L.length
  · rw [if_pos hl, if_pos hl, if_pos hl]
    refine (give_yes h hw hN hl (gi_yes hl).1 (gi_yes hl).2).mono ?_
    rintro e w' ⟨he, s, f⟩
    exact ⟨he, g, s, f, .inl rfl⟩
  · rw [if_neg hl, if_neg hl, if_neg hl]
    refine (give_no h hw hN (fun k hk hp => gi_no hl hk hp)).mono ?_
    rintro e w' ⟨he, hb⟩
    exact ⟨he, Became.below h hb⟩
theorem taken_any {w : World} {q g : Nat} {N : Int} {L : List Rn} (n a : Int) (h : Sp w q g L) (hw : WF N L) (hN : N ≤ 4096) :
    Calls Tryz.prog 82 #[.pointer (some ⟨q, 0, none⟩), .int .i64 n, .int .i64 a] w fun e w' => e = .returned (.tuple #[.int .i64 (tkv L n a), .int .i64 (tke L n a)]) ∧ Became q g (tkL L n a) w w' := by
  have HA := Lib.hid (fun W => ask_any n a W)
  unfold tkv tke tkL
  by_cases hb : askB n a = true
  · rw [if_pos hb, if_pos hb, if_pos hb]
    obtain ⟨ha0, ha1, ha2⟩ := askB_parts hb
    have hB := up_alloc (up_alloc (Below.refl _ w) (.cells #[.int .i64 n] 3)) (.cells #[.int .i64 a] 3)
    have b1 : Blk (w.alloc (.cells #[.int .i64 n] 3)) w.heap.size [.int .i64 n] 3 := heap_alloc_new w _
    have b2 : Blk ((w.alloc (.cells #[.int .i64 n] 3)).alloc (.cells #[.int .i64 a] 3)) w.heap.size [.int .i64 n] 3 := b1.of (heap_alloc_old _ _ b1.lt)
    have b3 : Blk ((w.alloc (.cells #[.int .i64 n] 3)).alloc (.cells #[.int .i64 a] 3)) (w.heap.size + 1) [.int .i64 a] 3 := by
      have := heap_alloc_new (w.alloc (.cells #[.int .i64 n] 3)) (.cells #[.int .i64 a] 3)
      rwa [World.size_alloc] at this
    have HS := Lib.hid (shortest_any (h.below hB) hw hN b2.cell b3.cell ha2 ha1)
    have HB := Lib.hid hB
    have HSp := Lib.hid h
    rw [hb] at HA
    rcases bst_is n a L L.length with ⟨hbs, _⟩ | ⟨k, hbs, hk, hf⟩
    · rw [hbs] at HS ⊢
      rw [if_pos rfl, if_pos rfl, if_pos rfl]
      clear h hw hb hB b1 b2 b3 ha2 hbs
      go_enter Tryz.func82, Tryz.ntmps82
      go_wp2_with (first | (go_at_call 121; refine (HA.out _).mono ?_; rintro e w' ⟨rfl, rfl⟩) | (go_at_call 123; refine (holds_any n a _).mono ?_; rintro e w1 ⟨rfl, rfl⟩) | (go_at_call 122; refine HS.out.mono ?_; rintro e w2 ⟨rfl, d2⟩))
      go_ret2
      exact ⟨rfl, Became.below HSp.out (up_trans HB.out d2)⟩
    · rw [hbs] at HS ⊢
      rw [if_neg (by omega), if_neg (by omega), if_neg (by omega), Int.toNat_natCast]
      obtain ⟨f1, f2⟩ := fit_parts hf
      have hbd := hw.bds hN hk
      have hk0 : ((k : Int) == -1) = false := by simp
      have HK := Lib.hid hk
      have HW := Lib.hid hw
      have hlen : (k : Int) < (L.length : Int) := by omega
      have hl2 : L.length ≤ 4096 := by have := hw.len; omega
      obtain ⟨r, hr⟩ : ∃ r, el L k = r := ⟨_, rfl⟩
      have HR := Lib.hid hr
      rw [hr] at f1 f2 hbd ⊢
      obtain ⟨p, m, t⟩ := r
      dsimp only at f1 f2 hbd ⊢
      have hu := (up_spec p (powB_bd ha2).1).1
      have HM := Lib.hid (fun W => mult_any p a W hbd.1 hbd.2.1 ha2)
      generalize up p a = u at f2 HM hu ⊢
      obtain ⟨M, hM⟩ : ∃ M, L.length = M := ⟨_, rfl⟩
      rw [hM] at hlen hl2
      have HMM := Lib.hid hM
      have b0 : (0 : Int) ≤ (k : Int) := by omega
      clear h hw hb hB b1 b2 b3 ha2 hbs hf hr hk hM
      go_enter Tryz.func82, Tryz.ntmps82
      go_wp2_with (first | (go_at_call 121; refine (HA.out _).mono ?_; rintro e w' ⟨rfl, rfl⟩) | (go_at_call 123; refine (holds_any n a _).mono ?_; rintro e w1 ⟨rfl, rfl⟩) | (go_at_call 122; refine HS.out.mono ?_; rintro e w2 ⟨rfl, d2⟩; have D2 := Lib.hid (up_trans HB.out d2); have S2 := HSp.out.below D2.out; obtain ⟨cap, q2, r2, n2⟩ := S2; have c2 : w2.cell? ⟨q, 0, none⟩ = some (.slice (some ⟨g, 0, none⟩) L.length cap) := q2.cell; obtain ⟨z0, z1, z2⟩ := r2.cells HK.out; rw [HMM.out] at c2; rw [HR.out] at z0 z1 z2; dsimp only at z0 z1 z2; clear q2 r2 n2 d2) | (go_at_call 124; refine (HM.out _).mono ?_; rintro e w' ⟨rfl, rfl⟩) | (go_at_call 125; refine (split_any (HSp.out.below D2.out) HW.out hN HK.out HR.out hu ha0 f2).mono ?_; rintro e w5 ⟨rfl, b5⟩))
      go_ret2
      exact ⟨rfl, b5.after D2.out⟩
  · have hbf : askB n a = false := by simpa using hb
    rw [if_neg hb, if_neg hb, if_neg hb]
    rw [hbf] at HA
    have HSp := Lib.hid h
    clear h hw hb hbf
    go_enter Tryz.func82, Tryz.ntmps82
    go_wp2_with (go_at_call 121; refine (HA.out _).mono ?_; rintro e w' ⟨rfl, rfl⟩)
    go_ret2
    exact ⟨rfl, Became.refl HSp.out⟩
end Go.Proofs.YtckcgaliphpgeaaGreatDoor.Sp
