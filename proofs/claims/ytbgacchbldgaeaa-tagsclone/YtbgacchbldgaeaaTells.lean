/-
  A page's slots, and copies of tags: contracts that the claimed proofs use.
-/
import Derived.Test.YtbgacchbldgaeaaOps
namespace Go.Proofs.Ytbgacchbldgaeaa
open Go.RowKit Go.Maps

theorem eq_of_lt : ∀ {A B : List Int}, A.Pairwise (· < ·) → B.Pairwise (· < ·) → (∀ x, x ∈ A ↔ x ∈ B) → A = B
  | [], [], _, _, _ => rfl
  | [], b :: B, _, _, h => by have := (h b).2 (List.mem_cons_self ..); cases this
  | a :: A, [], _, _, h => by have := (h a).1 (List.mem_cons_self ..); cases this
  | a :: A, b :: B, hA, hB, h => by
    obtain ⟨a1, a2⟩ := List.pairwise_cons.1 hA
    obtain ⟨b1, b2⟩ := List.pairwise_cons.1 hB
    have e : a = b := by
      rcases List.mem_cons.1 ((h a).1 (List.mem_cons_self ..)) with e | e
      · exact e
      · rcases List.mem_cons.1 ((h b).2 (List.mem_cons_self ..)) with e' | e'
        · exact e'.symm
        · have := b1 a e; have := a1 b e'; omega
    subst e
    rw [eq_of_lt a2 b2 (fun x => ?_)]
    have hx := h x
    simp only [List.mem_cons] at hx
    constructor
    · intro hm
      rcases hx.1 (.inr hm) with rfl | h'
      · have := a1 x hm; omega
      · exact h'
    · intro hm
      rcases hx.2 (.inr hm) with rfl | h'
      · have := b1 x hm; omega
      · exact h'
/-- The slots below k of a page that have tags. -/
def upto (L : List Tr) (p : Int) : Nat → List Int
  | 0 => []
  | k + 1 => upto L p k ++ (if hasB L p k then [(k : Int)] else [])
theorem mem_upto {L : List Tr} {p x : Int} : ∀ {k : Nat}, x ∈ upto L p k ↔ 0 ≤ x ∧ x < k ∧ hasB L p x = true
  | 0 => by simp [upto]; omega
  | k + 1 => by
    unfold upto
    rw [List.mem_append, mem_upto (k := k)]
    constructor
    · rintro (⟨h1, h2, h3⟩ | h)
      · exact ⟨h1, by omega, h3⟩
      · by_cases hh : hasB L p k = true
        · rw [if_pos hh, List.mem_singleton] at h; subst h; exact ⟨by omega, by omega, hh⟩
        · rw [if_neg hh] at h; cases h
    · rintro ⟨h1, h2, h3⟩
      by_cases hk : x = k
      · right; subst hk; rw [if_pos h3]; exact List.mem_singleton.2 rfl
      · left; exact ⟨h1, by omega, h3⟩
theorem upto_ord (L : List Tr) (p : Int) : ∀ k : Nat, (upto L p k).Pairwise (· < ·)
  | 0 => List.Pairwise.nil
  | k + 1 => by
    unfold upto
    rw [List.pairwise_append]
    refine ⟨upto_ord L p k, by split <;> simp, fun x hx y hy => ?_⟩
    have := (mem_upto.1 hx).2.1
    by_cases hh : hasB L p k = true
    · rw [if_pos hh, List.mem_singleton] at hy; omega
    · rw [if_neg hh] at hy; cases hy
theorem upto_len (L : List Tr) (p : Int) : ∀ k : Nat, (upto L p k).length ≤ k
  | 0 => Nat.le_refl _
  | k + 1 => by
    unfold upto
    rw [List.length_append]
    have := upto_len L p k
    split <;> simp <;> omega
theorem upto_all {L : List Tr} (h : Wf L) (p : Int) : upto L p 128 = (inP L p).map (·.s) := by
  refine eq_of_lt (upto_ord L p 128) ?_ (fun x => ?_)
  · rw [List.pairwise_map]
    refine (h.ord.sublist List.filter_sublist).imp_of_mem (fun {a b} ha hb hl => ?_)
    have h1 : a.p = p := by simpa using (List.mem_filter.1 ha).2
    have h2 : b.p = p := by simpa using (List.mem_filter.1 hb).2
    unfold ltR at hl
    omega
  · rw [mem_upto, List.mem_map]
    constructor
    · rintro ⟨_, _, h3⟩
      obtain ⟨r, hr, e1, e2⟩ := hasB_iff.1 h3
      exact ⟨r, List.mem_filter.2 ⟨hr, by simpa using e1⟩, e2⟩
    · rintro ⟨r, hr, e⟩
      obtain ⟨hr, hp⟩ := List.mem_filter.1 hr
      have hb := (Tr.ok_bd (h.ok r hr)).1
      refine ⟨by omega, by omega, hasB_iff.2 ⟨r, hr, by simpa using hp, e⟩⟩
set_option maxRecDepth 100000 in
set_option maxHeartbeats 4000000 in
theorem in_any {q b : Nat} {L : List Tr} {w : World} (h : Tg w q b L) {p : Int} (hp : I64 p) : Calls Try.prog 15 #[.pointer (some ⟨q, 0, none⟩), .int .i64 p] w fun e w' =>
    ∃ A c, e = .returned (.slice A (inP L p).length c) ∧ At w'.heap.size w' A (ints ((inP L p).map (·.s))) ∧ Below w.heap.size w w' := by
  have HT := Lib.hid h
  have HPp := Lib.hid hp
  have HAll := Lib.hid (upto_all h.wf p)
  have HLen : Hid (∀ A c W, At W.heap.size W A (ints ((inP L p).map (·.s))) → Below w.heap.size w W → ∃ A' c', Ending.returned (.slice A (upto L p 128).length c) = .returned (.slice A' (inP L p).length c') ∧ At W.heap.size W A' (ints ((inP L p).map (·.s))) ∧ Below w.heap.size w W) := fun A c W h1 h2 => ⟨A, c, by rw [HAll.out, List.length_map], h1, h2⟩
  clear h hp
  go_enter Try.func15, Try.ntmps15
  go_wp2_with fail
  go_loopw [5, 7] (fun u i wr => ∃ (v : Value) (k : Nat), v = u ∧ k ≤ 128 ∧ i = .int .i64 k ∧ wr.ownsRow w.heap.size 3 1 v (upto L p k).length (ints (upto L p k)) ∧ Below w.heap.size w wr) (fun _ i _ => 128 - (intOf i).toNat)
  case atStart => exact ⟨_, 0, rfl, by omega, rfl, World.ownsRow_nil _ _ _ _, Below.refl _ _⟩
  case round =>
    obtain ⟨v, k, rfl, hk, rfl, ho, hb⟩ := hrel
    have HO := Lib.hid ho
    have HB := Lib.hid hb
    clear ho hb
    by_cases hlt : k < 128
    · have hd : decide ((k : Int) < 128) = true := by simp; omega
      have HH := Lib.hid (has_any (HT.out.below HB.out) HPp.out (s := (k : Int)) (by unfold I64; omega))
      have hsn : Hid (upto L p (k + 1) = upto L p k ++ (if hasB L p k then [(k : Int)] else [])) := rfl
      have hul := upto_len L p k
      go_wp2_with fail
      refine HH.out.mono ?_
      rintro e w2 ⟨rfl, b2⟩
      have HO2 := Lib.hid (own_below HO.out b2)
      have HB2 := Lib.hid (up_trans HB.out b2)
      clear b2 HH
      cases hh : hasB L p k with
      | false =>
        have hsn2 : Hid (upto L p (k + 1) = upto L p k) := by show _ = _; rw [hsn.out, hh]; simp
        clear hsn
        go_wp2_with fail
        go_roundw
        case rel => exact ⟨_, k + 1, rfl, by omega, by go_num, by rw [hsn2.out]; exact HO2.out, HB2.out⟩
        case measure => simp [intOf]; omega
      | true =>
        have hsn2 : Hid (upto L p (k + 1) = upto L p k ++ [(k : Int)]) := by show _ = _; rw [hsn.out, hh]; simp
        clear hsn
        go_wp2_with (first
          | (at_builtin; refine app_law el3 rfl _ _ rfl rfl (HO2.out.alloc _) rfl (Blk.new w2 [.int .i64 (k : Int)] 3) rfl (by simp [Value.oneCell']) (by omega) (by rw [World.size_alloc]; have := HB2.out.size; omega) ?_; intro g' cap' w3 ho3 hg3 _)
          | go_in)
        have hb3 : Hid (Below w.heap.size w w3) := (up_alloc HB2.out _).grown hg3.out (up_alloc HB2.out _).size (fun j hj => (HO2.out.lt j hj).1)
        have ho4 : Hid (w3.ownsRow w.heap.size 3 1 (.slice (some ⟨g', 0, none⟩) ((upto L p k).length + 1) cap') (upto L p (k + 1)).length (ints (upto L p (k + 1)))) := by
          show World.ownsRow _ _ _ _ _ _ _
          rw [hsn2.out, ints_snoc, List.length_append]
          exact ho3.out
        clear ho3 hg3
        go_wp2_with fail
        go_roundw
        case rel => exact ⟨_, k + 1, rfl, by omega, by go_num, ho4.out, hb3.out⟩
        case measure => simp [intOf]; omega
    · obtain rfl : k = 128 := by omega
      obtain ⟨A, c, rfl⟩ := own_form HO.out
      go_wp2_with fail
      go_ret
      exact HLen.out A c wr (by rw [← HAll.out]; exact own_at HO.out) HB.out

/-! ### Copies -/
theorem equal_map (d : Nat) (w : World) (b : Nat) : (Op.equalIn (d + 1) 64 (.map (some b)) (.map none)).run Try.prog w = .ok false w := by
  simp [Op.equalIn, run_underlying Try.underlying64]
theorem eql_map (w : World) (b : Nat) : (binOp .eql 64 (.map (some b)) (.map none)).run Try.prog w = .ok (.bool false) w := by
  simp only [binOp]
  simp [show Op.equal 64 (.map (some b)) (.map none) = Op.equalIn (9999 + 1) 64 (.map (some b)) (.map none) from rfl, equal_map 9999 w b]
theorem clone_run (w : World) {b clock : Nat} {es : Array MapEntry} (hb : w.heap[b]? = some (.map es clock)) :
    (Extern.MapsClone.clone #[.iface 64 (.map (some b))]).run Try.prog w = .ok (.iface 64 (.map (some w.heap.size))) (w.alloc (.map es clock)) := by
  have e1 : ∀ (t : TypeId) (r : Nat), ∃ k : Obj → Sem Value, Extern.MapsClone.clone #[.iface t (.map (some r))] = (getObj r >>= k) ∧ ∀ es c, k (.map es c) = (newObj (.map es c) >>= fun n => pure (.iface t (.map (some n)))) := fun t r => ⟨_, rfl, fun _ _ => rfl⟩
  obtain ⟨k, e, hk⟩ := e1 64 b
  rw [e]
  simp [MapKept.run_getObj_map hb, hk, Result.andThen, go_sem]
theorem assert_map (w : World) (v : Value) : (Instr.typeAssert (.iface 64 v) 20 64 false).run Try.prog w = .ok v w := by
  simp [Instr.typeAssert, run_underlying Try.underlying64, go_sem, Result.andThen]
theorem Mp.copy {w : World} {b : Nat} {L : List Tr} (h : Mp w b L) {es : Array MapEntry} {clock : Nat} (hb : w.heap[b]? = some (.map es clock)) : Mp (w.alloc (.map es clock)) w.heap.size L := by
  obtain ⟨D, ⟨es', clock', hb', r⟩, hd⟩ := h
  rw [hb] at hb'
  cases hb'
  exact ⟨D, ⟨es, clock, heap_alloc_new w _, r⟩, hd⟩
set_option maxRecDepth 100000 in
set_option maxHeartbeats 2000000 in
theorem mapclone_any {b : Nat} {L : List Tr} {w : World} (h : Mp w b L) : Calls Try.prog 37 #[.map (some b)] w fun e w' => e = .returned (.map (some w.heap.size)) ∧ Mp w' w.heap.size L ∧ Below w.heap.size w w' ∧ w'.heap.size = w.heap.size + 1 := by
  obtain ⟨es, clock, hb⟩ := h.obj
  have HC := Lib.hid (h.copy hb)
  have HB := Lib.hid hb
  have hq := fun w => eql_map w b
  clear h hb
  go_enter Try.func37, Try.ntmps37
  go_wp2
  rw [run_callFunc_extern Try.func45 (by kernel_rfl) (by kernel_rfl) (by kernel_rfl) (e := Extern.MapsClone.clone) (by kernel_rfl), clone_run w HB.out]
  simp only [Result.andThen]
  rw [Oper.upon_value]
  go_wp2
  rw [assert_map]
  simp only [Result.andThen]
  rw [Oper.upon_value]
  go_wp2
  go_ret
  exact ⟨rfl, HC.out, up_alloc (Below.refl _ _) _, by simp⟩
set_option maxHeartbeats 2000000 in
theorem clone_any {q b : Nat} {L : List Tr} {w : World} (h : Tg w q b L) : Calls Try.prog 27 #[.pointer (some ⟨q, 0, none⟩)] w fun e w' => e = .returned (.pointer (some ⟨w.heap.size + 1, 0, none⟩)) ∧ Tg w' (w.heap.size + 1) w.heap.size L ∧ Below w.heap.size w w' ∧ w'.heap.size = w.heap.size + 2 := by
  have c1 := h.cell
  have HW := Lib.hid h.wf
  have HM := Lib.hid (mapclone_any h.mp)
  clear h
  go_enter Try.func27, Try.ntmps27
  go_wp2_with fail
  refine HM.out.mono ?_
  rintro e w2 ⟨rfl, m2, b2, s2⟩
  have M2 := Lib.hid m2
  have B2 := Lib.hid b2
  have HT : Hid (Tg (w2.alloc (.cells #[.map (some w.heap.size)] 66)) (w.heap.size + 1) w.heap.size L) := by
    refine ⟨?_, m2.below (up_alloc (Below.refl _ _) _), HW.out⟩
    have := Blk.new w2 [.map (some w.heap.size)] 66
    rwa [s2] at this
  clear m2 b2 HM
  go_wp2_with fail
  go_ret
  exact ⟨by simp, HT.out, up_alloc B2.out _, by simp [s2]⟩
end Go.Proofs.Ytbgacchbldgaeaa
