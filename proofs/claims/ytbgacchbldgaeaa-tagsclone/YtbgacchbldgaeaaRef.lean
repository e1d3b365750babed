/-
  The document's tags: rows in order. Contracts that the claimed proofs use.
-/
import Derived.Test.YtbgacchbldgaeaaLists
import Derived.Test.YtbgacchbldgaeaaMove
namespace Go.Proofs.Ytbgacchbldgaeaa
open Go.RowKit Go.Maps

/-- The document's tags at p: their list is v, and has these rows. -/
structure Rf (w : World) (p : Nat) (v : Value) (L : List Tr) : Prop where
  blk : Blk w p [v] 33
  own : w.ownsRow 0 44 4 v L.length (flat4 L)
theorem Rf.below {w w' : World} {p : Nat} {v : Value} {L : List Tr} (h : Rf w p v L) (hb : Below w.heap.size w w') : Rf w' p v L := ⟨h.blk.below hb, own_below h.own hb⟩
theorem Rf.form {w : World} {p : Nat} {v : Value} {L : List Tr} (h : Rf w p v L) : ∃ A c, v = .slice A L.length c := own_form h.own
theorem Rf.at {w : World} {p : Nat} {A : Option Addr} {c n : Nat} {L : List Tr} (h : Rf w p (.slice A n c) L) (hn : L.length = n) : At w.heap.size w A (flat4 L) := by
  have := h.own; rw [hn] at this; exact own_at this
theorem Rf.cell {w : World} {p : Nat} {v : Value} {L : List Tr} (h : Rf w p v L) : w.cell? ⟨p, 0, none⟩ = some v := h.blk.cell
set_option maxHeartbeats 1000000 in
theorem rplace_any (p s : Int) (w : World) : Calls Try.prog 25 #[.int .i64 p, .int .i64 s] w fun e w' => e = .returned (.bool (plB p s)) ∧ w = w' := by
  have e : plB p s = (decide (0 ≤ p) && decide (p ≤ 4095) && decide (0 ≤ s) && decide (s ≤ 127)) := by
    rw [Bool.eq_iff_iff, plB_iff]; simp only [Bool.and_eq_true, decide_eq_true_eq]; omega
  rw [e]
  clear e
  cases h1 : decide (0 ≤ p) <;> cases h2 : decide (p ≤ 4095) <;> cases h3 : decide (0 ≤ s) <;> cases h4 : decide (s ≤ 127)
  all_goals
    go_enter Try.func25, Try.ntmps25
    go_wp2_with fail
    go_ret
    exact ⟨rfl, rfl⟩
set_option maxHeartbeats 1000000 in
theorem rtag_any (p s : Int) (w : World) : Calls Try.prog 26 #[.int .i64 p, .int .i64 s] w fun e w' => e = .returned (.bool (tgB p s)) ∧ w = w' := by
  have e : tgB p s = (decide (0 ≤ p) && decide (p ≤ 63) && decide (0 ≤ s) && decide (s ≤ 1099511627776)) := by
    rw [Bool.eq_iff_iff, tgB_iff]; simp only [Bool.and_eq_true, decide_eq_true_eq]; omega
  rw [e]
  clear e
  cases h1 : decide (0 ≤ p) <;> cases h2 : decide (p ≤ 63) <;> cases h3 : decide (0 ≤ s) <;> cases h4 : decide (s ≤ 1099511627776)
  all_goals
    go_enter Try.func26, Try.ntmps26
    go_wp2_with fail
    go_ret
    exact ⟨rfl, rfl⟩
/-- Where a place's row stands. -/
def fi (L : List Tr) (p s : Int) : Nat := L.findIdx (atB p s)
def fiI (L : List Tr) (p s : Int) : Int := if hasB L p s then (fi L p s : Int) else -1
theorem fi_has {L : List Tr} {p s : Int} : hasB L p s = true ↔ fi L p s < L.length := by
  unfold hasB fi
  rw [List.any_eq_true, List.findIdx_lt_length]
theorem fi_at {L : List Tr} {p s : Int} (h : fi L p s < L.length) : atB p s L[fi L p s] = true := List.findIdx_getElem (w := h)
theorem fi_not {L : List Tr} {p s : Int} {i : Nat} (h : i < fi L p s) (hl : i < L.length) : atB p s L[i] = false := by
  have := List.not_of_lt_findIdx h
  simpa using this
theorem fi_row {L : List Tr} (hw : Wf L) {p s : Int} (h : fi L p s < L.length) : L[fi L p s] = rowOf L p s := by
  obtain ⟨h1, h2, h3⟩ := rowOf_yes (fi_has.2 h)
  obtain ⟨e1, e2⟩ := atB_iff.1 (fi_at h)
  exact hw.uniq (List.getElem_mem h) h1 (e1.trans h2.symm) (e2.trans h3.symm)
theorem fi_del {L : List Tr} (hw : Wf L) {p s : Int} (h : fi L p s < L.length) : L.take (fi L p s) ++ L.drop (fi L p s + 1) = del L p s := by
  have hs : (L.take (fi L p s) ++ L.drop (fi L p s + 1)).Sublist L := by
    have := List.take_append_drop (fi L p s) L
    conv => rhs; rw [← this]
    refine List.Sublist.append (List.Sublist.refl _) ?_
    rw [← List.drop_drop]
    exact List.drop_sublist _ _
  refine eq_of_ord (hw.ord.sublist hs) (hw.del p s).ord (fun x => ?_)
  rw [mem_del]
  obtain ⟨e1, e2⟩ := atB_iff.1 (fi_at h)
  have hL : L = L.take (fi L p s) ++ L[fi L p s] :: L.drop (fi L p s + 1) := by
    rw [← List.drop_eq_getElem_cons h, List.take_append_drop]
  have hnd := nodup_of hw.ord
  constructor
  · intro hx
    refine ⟨hs.subset hx, fun he => ?_⟩
    have hxe : x = L[fi L p s] := hw.uniq (hs.subset hx) (List.getElem_mem h) (he.1.trans e1.symm) (he.2.trans e2.symm)
    rw [hL] at hnd
    rw [hxe] at hx
    rw [List.nodup_append] at hnd
    obtain ⟨_, n2, n3⟩ := hnd
    rcases List.mem_append.1 hx with hx | hx
    · exact n3 _ hx _ (List.mem_cons_self ..) rfl
    · exact (List.nodup_cons.1 n2).1 hx
  · rintro ⟨hx, hne⟩
    rw [hL] at hx
    rcases List.mem_append.1 hx with hx | hx
    · exact List.mem_append_left _ hx
    · rcases List.mem_cons.1 hx with rfl | hx
      · exact (hne ⟨e1, e2⟩).elim
      · exact List.mem_append_right _ hx
set_option maxHeartbeats 2000000 in
theorem find_any {P : Nat} {v : Value} {L : List Tr} {w : World} (h : Rf w P v L) (hl : L.length ≤ 524288) (p s : Int) : Calls Try.prog 12 #[.pointer (some ⟨P, 0, none⟩), .int .i64 p, .int .i64 s] w fun e w' => e = .returned (.int .i64 (fiI L p s)) ∧ w = w' := by
  obtain ⟨A, c, rfl⟩ := h.form
  have HAt := Lib.hid (h.at rfl)
  have c0 := h.cell
  obtain ⟨N, hN⟩ : ∃ N, L.length = N := ⟨_, rfl⟩
  have HN := Lib.hid hN
  rw [hN] at c0 hl
  obtain ⟨E, hE⟩ : ∃ E, fiI L p s = E := ⟨_, rfl⟩
  have HE := Lib.hid hE
  rw [hE]
  clear h hN hE
  go_enter Try.func12, Try.ntmps12
  go_wp2_with fail
  go_loop [7] (fun i => ∃ k : Nat, k ≤ N ∧ i = .int .i64 k ∧ k ≤ fi L p s) (fun i => N - (intOf i).toNat)
  case atStart => exact ⟨0, by omega, rfl, Nat.zero_le _⟩
  case round =>
    obtain ⟨k, hk, rfl, hf⟩ := hrel
    have HF := Lib.hid hf
    clear hf
    by_cases hlt : k < N
    · have hkl : k < L.length := by rw [HN.out]; exact hlt
      obtain ⟨b, o, rfl, hb, q0, q1, q2, q3⟩ := HAt.out.row hkl
      have j1 : (0 : Int) ≤ (k : Int) := by omega
      have j2 : (k : Int) < (N : Int) := by omega
      have hat : Hid (atB p s L[k] = true → fi L p s = k) := fun ha => by
        rcases Nat.lt_or_ge k (fi L p s) with h1 | h1
        · have := fi_not h1 hkl; rw [ha] at this; cases this
        · have := HF.out; omega
      have hnat : Hid (atB p s L[k] = false → k + 1 ≤ fi L p s) := fun ha => by
        rcases Nat.lt_or_ge k (fi L p s) with h1 | h1
        · exact h1
        · have e : fi L p s = k := by have := HF.out; omega
          have := fi_at (L := L) (p := p) (s := s) (by rw [e]; exact hkl)
          simp only [e] at this
          rw [ha] at this; cases this
      have hyes : Hid (atB p s L[k] = true → E = (k : Int)) := fun ha => by
        have e := hat.out ha
        rw [← HE.out]
        unfold fiI
        rw [if_pos (fi_has.2 (by rw [e]; exact hkl)), e]
      obtain ⟨x, hx⟩ : ∃ x, L[k] = x := ⟨_, rfl⟩
      rw [hx] at q0 q1 hnat hyes
      clear q2 q3 hx hkl hat
      obtain ⟨xp, xs, xk, xz⟩ := x
      simp only [] at q0 q1
      cases e1 : (xp == p) with
      | false =>
        have H := Lib.hid (hnat.out (by unfold atB; simp only []; rw [e1]; rfl))
        clear hnat hyes
        go_wp2_with fail
        go_round
        case rel => exact ⟨k + 1, by omega, by go_num, H.out⟩
        case measure => simp [intOf]; omega
      | true =>
        cases e2 : (xs == s) with
        | false =>
          have H := Lib.hid (hnat.out (by unfold atB; simp only []; rw [e1, e2]; rfl))
          clear hnat hyes
          go_wp2_with fail
          go_round
          case rel => exact ⟨k + 1, by omega, by go_num, H.out⟩
          case measure => simp [intOf]; omega
        | true =>
          obtain rfl := hyes.out (by unfold atB; simp only []; rw [e1, e2]; rfl)
          clear hnat hyes
          go_wp2_with fail
          go_ret
          exact ⟨rfl, rfl⟩
    · obtain rfl : k = N := by omega
      obtain rfl : E = -1 := by
        rw [← HE.out]
        unfold fiI
        rw [if_neg (fun h => by have := fi_has.1 h; have := HF.out; have := HN.out; omega)]
      go_wp2_with fail
      go_ret
      exact ⟨rfl, rfl⟩
set_option maxHeartbeats 2000000 in
theorem rbytes_any {P : Nat} {v : Value} {L : List Tr} {w : World} (h : Rf w P v L) (hw : Wf L) : Calls Try.prog 19 #[.pointer (some ⟨P, 0, none⟩)] w fun e w' => e = .returned (.int .i64 (bytes L)) ∧ w = w' := by
  have hl := hw.len
  have HW := Lib.hid hw
  obtain ⟨A, c, rfl⟩ := h.form
  have HAt := Lib.hid (h.at rfl)
  have c0 := h.cell
  obtain ⟨N, hN⟩ : ∃ N, L.length = N := ⟨_, rfl⟩
  have HN := Lib.hid hN
  rw [hN] at c0 hl
  obtain ⟨E, hE⟩ : ∃ E, bytes L = E := ⟨_, rfl⟩
  have HE := Lib.hid hE
  rw [hE]
  clear h hN hE hw
  go_enter Try.func19, Try.ntmps19
  go_wp2_with fail
  go_loop [3, 4] (fun n i => ∃ k : Nat, k ≤ N ∧ i = .int .i64 k ∧ n = .int .i64 (bytes (L.take k))) (fun _ i => N - (intOf i).toNat)
  case atStart => exact ⟨0, by omega, rfl, rfl⟩
  case round =>
    obtain ⟨k, hk, rfl, rfl⟩ := hrel
    by_cases hlt : k < N
    · have hkl : k < L.length := by rw [HN.out]; exact hlt
      obtain ⟨b, o, rfl, hb, q0, q1, q2, q3⟩ := HAt.out.row hkl
      have j1 : (0 : Int) ≤ (k : Int) := by omega
      have j2 : (k : Int) < (N : Int) := by omega
      have hsn : Hid (bytes (L.take (k + 1)) = bytes (L.take k) + L[k].z) := by show _ = _; rw [List.take_succ_eq_append_getElem hkl, bytes_snoc]
      have hbd := bytes_bd (L := L.take k) (fun r hr => HW.out.ok r (List.mem_of_mem_take hr))
      have hzb := (Tr.ok_bd (HW.out.ok _ (List.getElem_mem hkl))).2
      have htl : (L.take k).length ≤ k := by rw [List.length_take]; omega
      have hwr := i64_in (bytes (L.take k) + L[k].z) (by omega) (by omega)
      generalize bytes (L.take k) = y at *
      generalize L[k].z = z at *
      clear q0 q1 q2 hkl hzb
      go_wp2_with fail
      go_round
      case rel => exact ⟨k + 1, by omega, by go_num, by rw [hsn.out]⟩
      case measure => simp [intOf]; omega
    · obtain rfl : k = N := by omega
      obtain rfl : E = bytes (L.take k) := by rw [← HE.out, List.take_of_length_le (by rw [HN.out]; omega)]
      go_wp2_with fail
      go_ret
      exact ⟨rfl, rfl⟩
end Go.Proofs.Ytbgacchbldgaeaa
