/-
  What the document's slab tells, its copy, and how it is made of slots: contracts that the claimed proof uses.
-/
import Derived.Test.YtiemgeflkmbfoaaDoorOsRefDo
namespace Go.Proofs.YtiemgeflkmbfoaaDoor.Os
set_option maxRecDepth 100000
open Go.RowKit
open Ta (sz szs classB classB_iff classB_not sizeOf' slotsOf)
open Bi (sets bt on first setL setB tst hasB u Blk Drawn grown_refl grown_trans grown_below up_alloc up_drew up_trans i64_in ret_i ret_b brow)

section
variable {w w' w2 : World} {R gl : Nat} {b c : Int} {l l' l2 : List Bool}
/-! ### List and State -/
set_option maxHeartbeats 2000000 in
theorem dlist_any (h : Rd w R gl b c l) : Calls Tryd.prog 39 #[.pointer (some ⟨R, 0, none⟩)] w fun e w' => ∃ g cap, e = .returned (.slice (some ⟨g, 0, none⟩) (sets l).length cap) ∧ At w'.heap.size w' (some ⟨g, 0, none⟩) (ints (nats (sets l))) ∧ Below w.heap.size w w' := by
  obtain ⟨cap, hc3⟩ := h.c3
  have HC3 := Lib.hid (fun (V : World) (hV : Below w.heap.size w V) => (hV.cell (p := ⟨R, 3, none⟩) h.lt.1).trans hc3)
  have HB := Lib.hid (fun (V : World) (hV : Below w.heap.size w V) (i : Nat) (hi : i < l.length) => (h.below hV).bit hi)
  have hl := h.len_le.2
  obtain ⟨n, hn⟩ : ∃ n, l.length = n := ⟨_, rfl⟩
  have HN := Lib.hid hn
  rw [hn] at HC3 HB hl
  have OE := Lib.hid (iown_empty w)
  have hb0 : Below w.heap.size w (w.alloc (.cells #[] 3)) := up_alloc (Below.refl _ _) _
  have HB0 := Lib.hid hb0
  clear h hn hc3 hb0
  go_enter Tryd.func39, Tryd.ntmps39
  go_wp2_with fail
  go_loopw [3, 4] (fun o i wr => ∃ k m g cp : Nat, k ≤ n ∧ m ≤ k ∧ i = .int .i64 k ∧ o = .slice (some ⟨g, 0, none⟩) m cp ∧ (on (bt l) k).length = m ∧ wr.ownsRow w.heap.size 3 1 (.slice (some ⟨g, 0, none⟩) m cp) m (ints (nats (on (bt l) k))) ∧ Below w.heap.size w wr) (fun _ i _ => n - (intOf i).toNat)
  case atStart => exact ⟨0, 0, w.heap.size, 0, by omega, by omega, rfl, rfl, rfl, OE.out, HB0.out⟩
  case round =>
    obtain ⟨k, m, g, cp, hk, hmk, rfl, rfl, hm, ho, hb⟩ := hrel
    have HO := Lib.hid ho
    have HBe := Lib.hid hb
    have HM := Lib.hid hm
    have c3 := HC3.out _ hb
    have hsz := hb.size
    clear ho hm
    by_cases hlt : k < n
    · have q0 := HB.out _ hb k hlt
      have j1 : (0 : Int) ≤ (k : Int) := by omega
      have j2 : (k : Int) < (n : Int) := by omega
      have hlt2 : decide ((k : Int) < (n : Int)) = true := by simpa using hlt
      clear hb
      cases hbk : bt l k
      · rw [hbk] at q0
        have HK := Lib.hid hbk
        clear hbk
        go_wp2
        go_roundw
        case rel => exact ⟨k + 1, m, g, cp, by omega, by omega, by go_num, rfl, by rw [Bi.on_succ, HK.out]; simpa using HM.out, by rw [Bi.on_succ, HK.out]; simpa using HO.out, HBe.out⟩
        case measure => simp [intOf]; omega
      · rw [hbk] at q0
        have HK := Lib.hid hbk
        have hm2 : m ≤ 1048577 := by omega
        clear hbk
        go_wp2_with (at_builtin; refine append_int (by rfl) _ _ (by rfl) w.heap.size g cp wr.heap.size m (nats (on (bt l) k)) (k : Int) (by rfl) (HO.out.alloc _) (by rfl) (Bi.new_at (by simp)) hm2 (by simp; omega) ?_; intro g' cap' w' HO2 HB2)
        go_roundw
        case rel => exact ⟨k + 1, m + 1, g', cap', by omega, by omega, by go_num, rfl, by rw [Bi.on_succ, HK.out]; simpa using HM.out, by rw [Bi.on_succ, HK.out]; have := HO2.out; simpa [nats] using this, (up_alloc HBe.out _).trans HB2.out⟩
        case measure => simp [intOf]; omega
    · obtain rfl : k = n := by omega
      have hlt2 : decide ((k : Int) < (k : Int)) = false := by simp
      clear hb
      go_wp2
      go_ret
      have e : on (bt l) k = sets l := by unfold Bi.sets; rw [HN.out]
      have HO' := HO.out
      have HM' := HM.out
      rw [e] at HO' HM'
      rw [HM']
      exact ⟨g, cp, rfl, own_at HO', HBe.out⟩
theorem dstate_any (h : Rd w R gl b c l) : Calls Tryd.prog 42 #[.pointer (some ⟨R, 0, none⟩)] w fun e w' => e = .returned (.int .i64 (stI l)) ∧ Below w.heap.size w w' := by
  have HL := Lib.hid (dlist_any h)
  obtain ⟨cap, hc3⟩ := h.c3
  have HC3 := Lib.hid (fun (V : World) (hV : Below w.heap.size w V) => (hV.cell (p := ⟨R, 3, none⟩) h.lt.1).trans hc3)
  have hs := Bi.sets_length_le l
  have hl := h.len_le
  unfold stI fr
  obtain ⟨n, hn⟩ : ∃ n, l.length = n := ⟨_, rfl⟩
  obtain ⟨m, hm⟩ : ∃ m, (sets l).length = m := ⟨_, rfl⟩
  rw [hn] at HC3 hs hl ⊢
  rw [hm] at HL hs ⊢
  clear h hc3 hn hm
  by_cases h0 : m = 0
  · have e0 : ((m : Int) == 0) = true := by simp; omega
    rw [if_pos (by omega)]
    clear h0
    go_enter Tryd.func42, Tryd.ntmps42
    go_wp2_with (go_at_call 39; refine HL.out.mono ?_; rintro e w1 ⟨g, cp, rfl, -, b1⟩; have B1 := Lib.hid b1; have c3 := HC3.out _ b1; clear b1)
    go_ret
    exact ⟨rfl, B1.out⟩
  · have e0 : ((m : Int) == 0) = false := by simp; omega
    rw [if_neg (by omega)]
    by_cases h1 : m = n
    · have e1 : ((m : Int) == (n : Int)) = true := by simp; omega
      rw [if_pos (by omega)]
      clear h0 h1
      go_enter Tryd.func42, Tryd.ntmps42
      go_wp2_with (go_at_call 39; refine HL.out.mono ?_; rintro e w1 ⟨g, cp, rfl, -, b1⟩; have B1 := Lib.hid b1; have c3 := HC3.out _ b1; clear b1)
      go_ret
      exact ⟨rfl, B1.out⟩
    · have e1 : ((m : Int) == (n : Int)) = false := by simp; omega
      rw [if_neg (by omega)]
      clear h0 h1
      go_enter Tryd.func42, Tryd.ntmps42
      go_wp2_with (go_at_call 39; refine HL.out.mono ?_; rintro e w1 ⟨g, cp, rfl, -, b1⟩; have B1 := Lib.hid b1; have c3 := HC3.out _ b1; clear b1)
      go_ret
      exact ⟨rfl, B1.out⟩
/-! ### Copy -/
theorem brow_one (xs : List Bool) : ∀ v ∈ brow xs, v.oneCell' = true := by
  intro v hv; obtain ⟨x, _, rfl⟩ := List.mem_map.1 hv; rfl
theorem bown_empty (w : World) : (w.alloc (.cells #[] 4)).ownsRow w.heap.size 4 1 (.slice (some ⟨w.heap.size, 0, none⟩) 0 0) 0 (brow []) :=
  ⟨rfl, .inr ⟨w.heap.size, 0, #[], rfl, Nat.le_refl _, heap_alloc_new w _, Nat.le_refl _, by decide, rfl, rfl⟩⟩
theorem brun_app (W : World) (ty : TypeId) (base g cap m c : Nat) (cs : List Bool) (sb so : Nat) (hown : W.ownsRow base 4 1 (.slice (some ⟨g, 0, none⟩) 0 cap) 0 (brow []))
    (hm : cs.length = m) (hba : ∀ j, j < m → W.cell? ⟨sb, so + j, none⟩ = some (.bool (bt cs j))) (hl : m ≤ 4194304) (hbase : base ≤ W.heap.size) :
    ∃ g' cap' w', (Builtin.append_ #[49, 49] ty #[.slice (some ⟨g, 0, none⟩) 0 cap, .slice (some ⟨sb, so, none⟩) m c]).run Tryd.prog W = .ok (.slice (some ⟨g', 0, none⟩) m cap') w' ∧
      w'.ownsRow base 4 1 (.slice (some ⟨g', 0, none⟩) m cap') m (brow cs) ∧ Below base W w' := by
  obtain ⟨i0, hi0, hz0, hz1, hz2⟩ := Bi.info_parts Bi.bool_info
  obtain ⟨v', w', hr, h2, h3, h4⟩ := run_append_own (P := Tryd.prog) W base 49 ty 4 i0 _ 1 1 Tryd.underlying49 hi0 hz0 hz1 hz2 rfl (by omega) _ 0 (brow []) hown ⟨sb, so, none⟩ m c (brow cs) (by rw [brow_len, hm, Nat.mul_one]) (fun j v hv => by
      have hj : j < cs.length := by
        rcases Nat.lt_or_ge j cs.length with hj | hj
        · exact hj
        · rw [List.getElem?_eq_none (by rw [brow_len]; exact hj)] at hv; cases hv
      rw [Bi.brow_get hj] at hv
      cases hv
      have e : (⟨sb, so, none⟩ : Addr).add j = ⟨sb, so + j, none⟩ := by unfold Addr.add; split <;> simp_all
      rw [e]; exact hba j (by omega)) (brow_one cs) (by simp only [maxLen]; omega) (by omega) hbase
  have h2' := h2
  rcases h2.2 with ⟨rfl, _⟩ | ⟨g', cap', cur, rfl, _⟩
  · have := (h4.1 rfl).1; simp at this
  · rw [Nat.zero_add] at h2' hr
    exact ⟨g', cap', w', hr, h2', (Below.refl _ W).grown h3 hbase (Bi.own_base hown)⟩
theorem bstep_app {W : World} {ops : Array Oper} {o : Oper} {a : Act} {K : Act → World → Prop} {Q : Exit → Act → World → Prop} {E : Prop} (hgd : o.guard = none) (s x : Operand)
    (ho : o.op = .call { callee := .builtin .append, args := #[s, x], argTypes := #[49, 49] }) (base g cap m c : Nat) (cs : List Bool) (sb so : Nat)
    (hs : a.eval s = .slice (some ⟨g, 0, none⟩) 0 cap) (hown : W.ownsRow base 4 1 (.slice (some ⟨g, 0, none⟩) 0 cap) 0 (brow []))
    (hx : a.eval x = .slice (some ⟨sb, so, none⟩) m c) (hm : cs.length = m) (hba : ∀ j, j < m → W.cell? ⟨sb, so + j, none⟩ = some (.bool (bt cs j))) (hl : m ≤ 4194304) (hbase : base ≤ W.heap.size)
    (h : ∀ g' cap' w', Hid (w'.ownsRow base 4 1 (.slice (some ⟨g', 0, none⟩) m cap') m (brow cs)) → Hid (Below base W w') → K (a.put o.dst (.slice (some ⟨g', 0, none⟩) m cap')) w') :
    if Region.wanted o (yielded ops a.tmps) = true then Oper.wp Tryd.prog o a W K Q else E := by
  have hw : Region.wanted o (yielded ops a.tmps) = true := by simp [Region.wanted, hgd]
  rw [if_pos hw]
  obtain ⟨g', cap', w', hr, h2, h3⟩ := brun_app W o.type base g cap m c cs sb so hown hm hba hl hbase
  unfold Oper.wp execOp
  simp only [ho, resolve, invoke, builtin, Sem.run_bind, Sem.run_pure, Result.andThen_ok, List.map_toArray, List.map_cons, List.map_nil, hs, hx, hr]
  exact h g' cap' w' h2 h3
end
end Go.Proofs.YtiemgeflkmbfoaaDoor.Os
