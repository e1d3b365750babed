/-
  What the references' Differ does: a contract that the claimed proofs use.
-/
import Derived.Test.YtdkjbidnelbdeaaAlive
namespace Go.Proofs.Ytdkjbidnelbdeaa
open Go.RowKit

theorem rspan_info : (Try.prog.info? 52).map (fun i => (i.zero, i.size, i.bytes)) = some (some (.agg #[.int .i64 0, .int .i64 0]), 2, 16) := by kernel_rfl
theorem flat_bump (l : List (Nat × Nat)) (a n : Nat) : (flat (l ++ [(a, n)])).set (l.length * 2 + 1) (.int .i64 ((n : Int) + 1)) = flat (l ++ [(a, n + 1)]) := by
  rw [flat_append, flat_append, List.set_append_right _ _ (by rw [flat_length]; omega), flat_length, show l.length * 2 + 1 - l.length * 2 = 1 by omega]
  rfl
/-- What a round meets: where the row goes on, the last one ends here. -/
theorem ref_last (f : Nat → Bool) (k : Nat) (h : (refTo f k).2 = true) : ∃ l a, refTo f k = (l ++ [(a, k - a)], true) ∧ a ≤ k := by
  have hr := ref_cells f k
  rw [hr] at h
  have h2 : (cellsTo f k).2 < k := by simpa using h
  refine ⟨(cellsTo f k).1, (cellsTo f k).2, ?_, by omega⟩
  rw [hr, addL, if_neg (by omega)]
  simp [h2]
theorem ref_length (f : Nat → Bool) (k : Nat) : (refTo f k).1.length ≤ k + 1 := by rw [ref_diff]; exact diffL_length f k

theorem own_bump {w : World} {base g cap m t a : Nat} {l : List (Nat × Nat)} (h : w.ownsRow base 52 2 (.slice (some ⟨g, 0, none⟩) (m + 1) cap) (m + 1) (flat (l ++ [(a, t)]))) (hm : l.length = m) :
    (w.setCell ⟨g, m * 2 + 1, none⟩ (.int .i64 ((t : Int) + 1))).ownsRow base 52 2 (.slice (some ⟨g, 0, none⟩) (m + 1) cap) (m + 1) (flat (l ++ [(a, t + 1)])) := by
  have := (h.stored (m * 2 + 1) (.int .i64 ((t : Int) + 1))).1
  rw [← hm, flat_bump] at this
  rw [← hm]
  exact this
theorem own_end {w : World} {base g cap m t a : Nat} {l : List (Nat × Nat)} (h : w.ownsRow base 52 2 (.slice (some ⟨g, 0, none⟩) (m + 1) cap) (m + 1) (flat (l ++ [(a, t)]))) (hm : l.length = m) :
    w.ownsRow base 52 2 (.slice (some ⟨g, 0, none⟩) (l ++ [(a, t)]).length cap) (l ++ [(a, t)]).length (flat (l ++ [(a, t)])) := by
  rw [List.length_append, hm]; exact h
theorem new_at {w : World} {o : Obj} {n : Nat} (h : w.heap.size = n) : (w.alloc o).heap[n]? = some o := by subst h; exact heap_alloc_new w o
theorem append_rspan {W : World} {ops : Array Oper} {rest : List Oper} {o : Oper} {a : Act} {Q : Exit → Act → World → Prop} (hgd : o.guard = none) (s x : Operand)
    (ho : o.op = .call { callee := .builtin .append, args := #[s, x], argTypes := #[47, 47] }) (base g cap n : Nat) (l : List (Nat × Nat)) (p q : Nat)
    (hs : a.eval s = .slice (some ⟨g, 0, none⟩) l.length cap) (hown : W.ownsRow base 52 2 (.slice (some ⟨g, 0, none⟩) l.length cap) l.length (flat l))
    (hx : a.eval x = .slice (some ⟨n, 0, none⟩) 1 1) (hn : W.heap[n]? = some (.cells #[.int .i64 (p : Int), .int .i64 (q : Int)] 52 (0, 0))) (hl : l.length ≤ 1048577) (hbase : base ≤ W.heap.size)
    (h : ∀ g' cap' w', Hid (w'.ownsRow base 52 2 (.slice (some ⟨g', 0, none⟩) (l ++ [(p, q)]).length cap') (l ++ [(p, q)]).length (flat (l ++ [(p, q)]))) → Hid (Below base W w') →
      wpList Try.prog ops Q rest (a.put o.dst (.slice (some ⟨g', 0, none⟩) (l.length + 1) cap')) w') : wpList Try.prog ops Q (o :: rest) a W := by
  obtain ⟨i0, hi0, hz0, hz1, hz2⟩ := info_parts rspan_info
  refine wpList_append_lies W hgd s x 47 ho base 52 i0 _ 2 16 Try.underlying47 hi0 hz0 hz1 hz2 rfl (by omega) _ l.length (flat l) hs hown ⟨n, 0, none⟩ 1 1 [.int .i64 (p : Int), .int .i64 (q : Int)] hx rfl
    (World.news_of_block (cs := #[.int .i64 (p : Int), .int .i64 (q : Int)]) (t := 52) (fr := (0, 0)) hn) (by simp [Value.oneCell']) (by omega) (by simp only [maxLen]; omega) (by omega) hbase _ rfl ?_
  intro g' cap' w' h2 h3 _ _
  refine h g' cap' w' ?_ ((Below.refl _ W).grown h3 hbase (own_base hown))
  show World.ownsRow _ _ _ _ _ _ _
  rw [flat_append, List.length_append]
  exact h2

set_option maxRecDepth 100000 in
set_option maxHeartbeats 4000000 in
theorem rdiffer_any (A B : Option Addr) (ps bs : List (BitVec 8)) (c d N : Nat) (w : World) (hN : N ≤ w.heap.size) (h1 : BA N w A ps) (h2 : BA N w B bs) (l1 : ps.length ≤ 1048576) (l2 : bs.length ≤ 1048576) :
    Calls Try.prog 18 #[.slice A ps.length c, .slice B bs.length d] w (Differs (diffL (likeB ps bs) (max ps.length bs.length)) w) := by
  have H1 := Lib.hid h1
  have H2 := Lib.hid h2
  have hlk : ∀ k, likeB ps bs k = (decide (k < ps.length) && decide (k < bs.length) && (ps.getD k 0#8 == bs.getD k 0#8)) := fun _ => rfl
  clear h1 h2
  obtain ⟨L1, e1⟩ : ∃ L, ps.length = L := ⟨_, rfl⟩
  obtain ⟨L2, e2⟩ : ∃ L, bs.length = L := ⟨_, rfl⟩
  rw [e1] at l1 ⊢
  rw [e2] at l2 ⊢
  simp only [e1, e2] at hlk
  have HE1 := Lib.hid e1
  have HE2 := Lib.hid e2
  obtain ⟨E, hE⟩ : ∃ E, max L1 L2 = E := ⟨_, rfl⟩
  have hE1 : L1 ≤ E := by omega
  have hE2 : L2 ≤ E := by omega
  have hE3 : E ≤ L1 ∨ E ≤ L2 := by omega
  have HE3 := Lib.hid hE3
  have hE4 : E ≤ 1048576 := by omega
  rw [hE]
  clear hE hE3 e1 e2
  obtain ⟨f, hf⟩ : ∃ f, likeB ps bs = f := ⟨_, rfl⟩
  rw [hf] at hlk ⊢
  have HLK := Lib.hid hlk
  clear hf hlk
  rw [← ref_diff]
  have hst : (w.alloc (.cells #[] 52)).ownsRow w.heap.size 52 2 (.slice (some ⟨w.heap.size, 0, none⟩) (refTo f 0).1.length 0) (refTo f 0).1.length (flat (refTo f 0).1) :=
    ⟨rfl, .inr ⟨w.heap.size, 0, #[], rfl, Nat.le_refl _, heap_alloc_new w _, Nat.le_refl _, by decide, rfl, rfl⟩⟩
  have HS := Lib.hid hst
  clear hst
  go_enter Try.func18, Try.ntmps18
  go_wp2
  go_loopw [5, 6, 7] (fun o la i wr => ∃ k g cap : Nat, k ≤ E ∧ i = .int .i64 k ∧ la = .bool (refTo f k).2 ∧ o = .slice (some ⟨g, 0, none⟩) (refTo f k).1.length cap ∧ wr.ownsRow w.heap.size 52 2 (.slice (some ⟨g, 0, none⟩) (refTo f k).1.length cap) (refTo f k).1.length (flat (refTo f k).1) ∧ Below w.heap.size w wr) (fun _ _ i _ => E - (intOf i).toNat)
  case atStart => exact ⟨0, w.heap.size, 0, by omega, rfl, rfl, rfl, HS.out, up_alloc (Below.refl _ _) _⟩
  case round =>
    obtain ⟨k, g, cap, hk, rfl, rfl, rfl, hown, hbel⟩ := hrel
    have HO := Lib.hid hown
    have HB := Lib.hid hbel
    have hgl := own_lt hown
    have hsz := hbel.size
    clear hown hbel HS
    have hgb : w.heap.size ≤ g := own_base HO.out g rfl
    have hlen := ref_length f k
    by_cases hlt : k < E
    · have hguard : (k < L1 ∧ k < L2) ∨ (k < L1 ∧ ¬ k < L2) ∨ (¬ k < L1 ∧ k < L2) := by have := HE3.out; omega
      obtain ⟨l, hl⟩ : ∃ l, (refTo f k).1 = l := ⟨_, rfl⟩
      obtain ⟨b, hb⟩ : ∃ b, (refTo f k).2 = b := ⟨_, rfl⟩
      rw [hl] at HO hlen ⊢
      rw [hb]
      have HR : Hid (refTo f k = (l, b)) := by show _ = _; rw [← hl, ← hb]
      clear hl hb
      cases hfk : f k
      · -- the bytes are unlike
        have hs := refTo.eq_2 f k
        rw [if_neg (by rw [hfk]; simp), HR.out] at hs
        have HS2 := Lib.hid hs
        clear hs
        have hX : Hid (¬ (k < L1 ∧ k < L2 ∧ ps.getD k 0#8 = bs.getD k 0#8)) := by
          show ¬ _
          rintro ⟨a1, a2, a3⟩
          have := HLK.out k
          rw [hfk, a3] at this
          simp [a1, a2] at this
        clear hfk
        cases b
        · -- a new row
          rw [if_neg (by simp)] at HS2
          rcases hguard with ⟨ka, kb⟩ | ⟨ka, kb⟩ | ⟨ka, kb⟩
          · obtain ⟨b1, o1, rfl, hb1, q1⟩ := H1.out (by rw [HE1.out]; omega)
            obtain ⟨b2, o2, rfl, hb2, q2⟩ := H2.out (by rw [HE2.out]; omega)
            have c1 := (HB.out.cell (p := ⟨b1, o1 + k, none⟩) (by show b1 < _; omega)).trans (q1 k (by rw [HE1.out]; exact ka))
            have c2 := (HB.out.cell (p := ⟨b2, o2 + k, none⟩) (by show b2 < _; omega)).trans (q2 k (by rw [HE2.out]; exact kb))
            have hxx : ¬ ps.getD k 0#8 = bs.getD k 0#8 := fun h => hX.out ⟨ka, kb, h⟩
            obtain ⟨x, hx⟩ : ∃ x, ps.getD k 0#8 = x := ⟨_, rfl⟩
            obtain ⟨x2, hx2⟩ : ∃ x, bs.getD k 0#8 = x := ⟨_, rfl⟩
            rw [hx] at c1 hxx
            rw [hx2] at c2 hxx
            have hne : (y x != y x2) = true := by simp; exact fun h => hxx (y_inj h)
            clear q1 q2 hx hx2 hxx hX
            have k0 : (0 : Int) ≤ (k : Int) := by omega
            have k1 : (k : Int) < (L1 : Int) := by omega
            have k2 : (k : Int) < (L2 : Int) := by omega
            have k3 : decide (L1 ≤ k) = false := by simp; omega
            have k4 : decide (L2 ≤ k) = false := by simp; omega
            go_wp2_with fail
            go_quiet (fail)
            go_wp2_with (at_builtin; refine append_rspan (by rfl) _ _ (by rfl) w.heap.size g cap wr.heap.size l k 1 (by rfl) ((own_drewN HO.out _).alloc _) (by rfl) (new_at (by simp)) (by omega) (by simp; omega) ?_; intro g' cap' w' HO2 HB2)
            go_roundw
            case rel => exact ⟨k + 1, g', cap', by omega, by go_num, by rw [HS2.out], by rw [HS2.out, List.length_append]; rfl, by rw [HS2.out]; exact HO2.out, (up_alloc (below_drewN HB.out _) _).trans HB2.out⟩
            case measure => simp [intOf]; omega
          · have k1 : (k : Int) < (L1 : Int) := by omega
            have k3 : decide (L1 ≤ k) = false := by simp; omega
            have k4 : decide (L2 ≤ k) = true := by simp; omega
            have k5 : (L2 : Int) ≤ (k : Int) := by omega
            go_wp2_with fail
            go_quiet (fail)
            go_wp2_with (at_builtin; refine append_rspan (by rfl) _ _ (by rfl) w.heap.size g cap wr.heap.size l k 1 (by rfl) ((own_drewN HO.out _).alloc _) (by rfl) (new_at (by simp)) (by omega) (by simp; omega) ?_; intro g' cap' w' HO2 HB2)
            go_roundw
            case rel => exact ⟨k + 1, g', cap', by omega, by go_num, by rw [HS2.out], by rw [HS2.out, List.length_append]; rfl, by rw [HS2.out]; exact HO2.out, (up_alloc (below_drewN HB.out _) _).trans HB2.out⟩
            case measure => simp [intOf]; omega
          · have k1 : (k : Int) < (L2 : Int) := by omega
            have k3 : decide (L1 ≤ k) = true := by simp; omega
            have k5 : (L1 : Int) ≤ (k : Int) := by omega
            go_wp2_with fail
            go_quiet (fail)
            go_wp2_with (at_builtin; refine append_rspan (by rfl) _ _ (by rfl) w.heap.size g cap wr.heap.size l k 1 (by rfl) ((own_drewN HO.out _).alloc _) (by rfl) (new_at (by simp)) (by omega) (by simp; omega) ?_; intro g' cap' w' HO2 HB2)
            go_roundw
            case rel => exact ⟨k + 1, g', cap', by omega, by go_num, by rw [HS2.out], by rw [HS2.out, List.length_append]; rfl, by rw [HS2.out]; exact HO2.out, (up_alloc (below_drewN HB.out _) _).trans HB2.out⟩
            case measure => simp [intOf]; omega
        · -- the row goes on
          obtain ⟨l0, a, hra, hak⟩ := ref_last f k (by rw [HR.out])
          rw [HR.out] at hra
          obtain rfl : l = l0 ++ [(a, k - a)] := congrArg Prod.fst hra
          rw [if_pos rfl, bump_last] at HS2
          clear hra
          obtain ⟨m, hm⟩ : ∃ m, l0.length = m := ⟨_, rfl⟩
          have HM := Lib.hid hm
          obtain ⟨t, ht⟩ : ∃ t, k - a = t := ⟨_, rfl⟩
          have htk : t ≤ k := by omega
          have HT := Lib.hid ht
          rw [ht] at HO HS2 hlen ⊢
          have hlm : (l0 ++ [(a, t)]).length = m + 1 := by rw [List.length_append, hm]; rfl
          have hcl : wr.cell? ⟨g, m * 2 + 1, none⟩ = some (.int .i64 (t : Int)) := by
            rw [HO.out.cellAt _ (by rw [hlm]; omega)]
            have := (flat_get (l0 ++ [(a, t)]) m (by rw [hlm]; omega)).2
            rw [← hm, List.getD_eq_getElem?_getD, List.getElem?_append_right (Nat.le_refl _)] at this
            rw [← hm]
            simpa using this
          have hfz : wr.frozen? ⟨g, m * 2 + 1, none⟩ = false := HO.out.frozenAt _
          have hmk : m ≤ k := by rw [hlm] at hlen; omega
          rw [hlm]
          rw [hlm] at HO
          have m0 : (0 : Int) ≤ (m : Int) := by omega
          clear ht hm hlm hlen
          rcases hguard with ⟨ka, kb⟩ | ⟨ka, kb⟩ | ⟨ka, kb⟩
          · obtain ⟨b1, o1, rfl, hb1, q1⟩ := H1.out (by rw [HE1.out]; omega)
            obtain ⟨b2, o2, rfl, hb2, q2⟩ := H2.out (by rw [HE2.out]; omega)
            have c1 := (HB.out.cell (p := ⟨b1, o1 + k, none⟩) (by show b1 < _; omega)).trans (q1 k (by rw [HE1.out]; exact ka))
            have c2 := (HB.out.cell (p := ⟨b2, o2 + k, none⟩) (by show b2 < _; omega)).trans (q2 k (by rw [HE2.out]; exact kb))
            have hxx : ¬ ps.getD k 0#8 = bs.getD k 0#8 := fun h => hX.out ⟨ka, kb, h⟩
            obtain ⟨x, hx⟩ : ∃ x, ps.getD k 0#8 = x := ⟨_, rfl⟩
            obtain ⟨x2, hx2⟩ : ∃ x, bs.getD k 0#8 = x := ⟨_, rfl⟩
            rw [hx] at c1 hxx
            rw [hx2] at c2 hxx
            have hne : (y x != y x2) = true := by simp; exact fun h => hxx (y_inj h)
            clear q1 q2 hx hx2 hxx hX
            have k0 : (0 : Int) ≤ (k : Int) := by omega
            have k1 : (k : Int) < (L1 : Int) := by omega
            have k2 : (k : Int) < (L2 : Int) := by omega
            have k3 : decide (L1 ≤ k) = false := by simp; omega
            have k4 : decide (L2 ≤ k) = false := by simp; omega
            go_wp2_with fail
            go_quiet (fail)
            go_wp2
            go_roundw
            case rel => exact ⟨k + 1, g, cap, by omega, by go_num, by rw [HS2.out], by rw [HS2.out]; simp [HM.out], by rw [HS2.out]; exact own_end (own_bump (own_drewN HO.out _) HM.out) HM.out, (below_drewN HB.out _).setCell hgb _⟩
            case measure => simp [intOf]; omega
          · have k1 : (k : Int) < (L1 : Int) := by omega
            have k3 : decide (L1 ≤ k) = false := by simp; omega
            have k4 : decide (L2 ≤ k) = true := by simp; omega
            have k5 : (L2 : Int) ≤ (k : Int) := by omega
            go_wp2_with fail
            go_quiet (fail)
            go_wp2
            go_roundw
            case rel => exact ⟨k + 1, g, cap, by omega, by go_num, by rw [HS2.out], by rw [HS2.out]; simp [HM.out], by rw [HS2.out]; exact own_end (own_bump (own_drewN HO.out _) HM.out) HM.out, (below_drewN HB.out _).setCell hgb _⟩
            case measure => simp [intOf]; omega
          · have k1 : (k : Int) < (L2 : Int) := by omega
            have k3 : decide (L1 ≤ k) = true := by simp; omega
            have k5 : (L1 : Int) ≤ (k : Int) := by omega
            go_wp2_with fail
            go_quiet (fail)
            go_wp2
            go_roundw
            case rel => exact ⟨k + 1, g, cap, by omega, by go_num, by rw [HS2.out], by rw [HS2.out]; simp [HM.out], by rw [HS2.out]; exact own_end (own_bump (own_drewN HO.out _) HM.out) HM.out, (below_drewN HB.out _).setCell hgb _⟩
            case measure => simp [intOf]; omega
      · -- the bytes are alike
        have hs := refTo.eq_2 f k
        rw [if_pos hfk, HR.out] at hs
        have hl2 := HLK.out k
        rw [hfk] at hl2
        have hl3 : (k < L1 ∧ k < L2) ∧ ps.getD k 0#8 = bs.getD k 0#8 := by simpa using hl2.symm
        obtain ⟨⟨ka, kb⟩, hxx⟩ := hl3
        have HS2 := Lib.hid hs
        clear hs hl2 hguard hfk
        obtain ⟨b1, o1, rfl, hb1, q1⟩ := H1.out (by rw [HE1.out]; omega)
        obtain ⟨b2, o2, rfl, hb2, q2⟩ := H2.out (by rw [HE2.out]; omega)
        have c1 := (HB.out.cell (p := ⟨b1, o1 + k, none⟩) (by show b1 < _; omega)).trans (q1 k (by rw [HE1.out]; exact ka))
        have c2 := (HB.out.cell (p := ⟨b2, o2 + k, none⟩) (by show b2 < _; omega)).trans (q2 k (by rw [HE2.out]; exact kb))
        rw [← hxx] at c2
        obtain ⟨x, hx⟩ : ∃ x, ps.getD k 0#8 = x := ⟨_, rfl⟩
        rw [hx] at c1 c2
        have hne : (y x != y x) = false := by simp
        clear q1 q2 hx hxx
        have k0 : (0 : Int) ≤ (k : Int) := by omega
        have k1 : (k : Int) < (L1 : Int) := by omega
        have k2 : (k : Int) < (L2 : Int) := by omega
        have k3 : decide (L1 ≤ k) = false := by simp; omega
        have k4 : decide (L2 ≤ k) = false := by simp; omega
        go_wp2_with fail
        go_quiet (fail)
        go_wp2
        go_roundw
        case rel => exact ⟨k + 1, g, cap, by omega, by go_num, by rw [HS2.out], by rw [HS2.out], by rw [HS2.out]; exact own_drewN HO.out _, below_drewN HB.out _⟩
        case measure => simp [intOf]; omega
    · obtain rfl : k = E := by omega
      have k1 : decide ((k : Int) < (L1 : Int)) = false := by simp; omega
      have k2 : decide ((k : Int) < (L2 : Int)) = false := by simp; omega
      obtain ⟨A', cap', hA', hsp⟩ := own_spans HO.out
      have HSP := Lib.hid hsp
      cases hA'
      clear hsp
      go_wp2
      go_ret
      exact ⟨_, _, rfl, HSP.out, HB.out⟩

end Go.Proofs.Ytdkjbidnelbdeaa
