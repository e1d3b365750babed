/-
  A map of the spans that are held, beside the runs: facts that the claimed proofs use.
-/
import Derived.Test.YtbfcejmifmeigaaPages
import Derived.Maps.OwnSet
import Derived.Maps.OwnOps
namespace Go.Proofs.Ytbfcejmifmeigaa
open Go.RowKit Go.Maps

/-! ### Where spans begin -/
theorem chain_sorted : ∀ {L : List Rn} {a e : Int}, Chain a L e → (L.map (·.p)).Pairwise (· < ·)
  | [], _, _, _ => List.Pairwise.nil
  | r :: L, a, e, h => by
    rw [List.map_cons, List.pairwise_cons]
    refine ⟨fun p hp => ?_, chain_sorted h.2.2⟩
    obtain ⟨s, hs, rfl⟩ := List.mem_map.1 hp
    obtain ⟨i, hi, rfl⟩ := el_of_mem hs
    have := chain_at h.2.2 hi
    have := h.1
    have := h.2.1
    omega
theorem pw_ne : ∀ {l : List Int}, l.Pairwise (· < ·) → l.Nodup
  | [], _ => List.nodup_nil
  | a :: l, h => by
    rw [List.pairwise_cons] at h
    rw [List.nodup_cons]
    exact ⟨fun hm => Int.lt_irrefl _ (h.1 a hm), pw_ne h.2⟩
theorem tps_nodup {N : Int} {L : List Rn} (h : WF N L) : (tps L).Nodup := by
  have h1 : (tps L).Sublist (L.map (·.p)) := (List.filter_sublist).map _
  have h2 := (chain_sorted h.chain).sublist h1
  exact pw_ne h2
theorem gi_iff {N : Int} {L : List Rn} (h : WF N L) (y : Int) : gi L y < L.length ↔ y ∈ tps L := by
  constructor
  · intro hl
    obtain ⟨h1, h2⟩ := gi_yes hl
    exact List.mem_map.2 ⟨el L (gi L y), List.mem_filter.2 ⟨el_mem hl, by simpa using h2⟩, h1⟩
  · intro hy
    obtain ⟨r, hr, hp⟩ := List.mem_map.1 hy
    obtain ⟨hr1, hr2⟩ := List.mem_filter.1 hr
    obtain ⟨k, hk, he⟩ := el_of_mem hr1
    rw [gi_is h hk (by rw [he]; exact hp) (by rw [he]; simpa using hr2)]
    exact hk
theorem gvv_of {N : Int} {L : List Rn} (h : WF N L) {r : Rn} (hr : r ∈ tk L) : gvv L r.p = r.n ∧ gi L r.p < L.length := by
  obtain ⟨hr1, hr2⟩ := List.mem_filter.1 hr
  obtain ⟨k, hk, he⟩ := el_of_mem hr1
  have hg := gi_is h (x := r.p) hk (by rw [he]) (by rw [he]; simpa using hr2)
  have hl : gi L r.p < L.length := by rw [hg]; exact hk
  refine ⟨?_, hl⟩
  unfold gvv
  rw [if_pos hl, hg, he]
theorem gvv_no {N : Int} {L : List Rn} {y : Int} (h : WF N L) (hy : y ∉ tps L) : gvv L y = 0 := by
  unfold gvv; rw [if_neg (fun hl => hy ((gi_iff h y).1 hl))]
theorem gvv_pos {N : Int} {L : List Rn} {y : Int} (h : WF N L) : (gi L y < L.length ∧ 1 ≤ gvv L y ∧ gve L y = 0) ∨ (¬ gi L y < L.length ∧ gvv L y = 0 ∧ gve L y = 12) := by
  unfold gvv gve
  by_cases hl : gi L y < L.length
  · left; rw [if_pos hl, if_pos hl]; exact ⟨hl, (chain_at h.chain hl).2.1, rfl⟩
  · right; rw [if_neg hl, if_neg hl]; exact ⟨hl, rfl, rfl⟩
theorem gvv_at {N : Int} {L : List Rn} (h : WF N L) {y : Int} (hy : y ∈ tps L) : ∃ r ∈ tk L, r.p = y ∧ gvv L y = r.n := by
  obtain ⟨r, hr, hp⟩ := List.mem_map.1 hy
  exact ⟨r, hr, hp, by rw [← hp]; exact (gvv_of h hr).1⟩
/-- What is given back is held no more; all else is as it was. -/
theorem give_held {N : Int} {L : List Rn} (h : WF N L) {x : Int} (hl : gi L x < L.length) :
    (tk (gvL L x)).length + 1 = (tk L).length ∧ (∀ y, gvv (gvL L x) y = if y = x then 0 else gvv L y) ∧ ∀ y, (y ∈ tps (gvL L x) ↔ y ≠ x ∧ y ∈ tps L) := by
  have hw := gv_wf h x
  have hnd := tps_nodup h
  have e0 : gvL L x = giveL L (gi L x) := by unfold gvL; rw [if_pos hl]
  rw [e0] at hw ⊢
  obtain ⟨A, B, e1, e2⟩ := tk_give h hl (gi_yes hl).2
  have hpx := (gi_yes hl).1
  have t1 : tps L = A.map (·.p) ++ x :: B.map (·.p) := by unfold tps; rw [e1, List.map_append, List.map_cons, hpx]
  have t2 : tps (giveL L (gi L x)) = A.map (·.p) ++ B.map (·.p) := by unfold tps; rw [e2, List.map_append]
  rw [t1] at hnd
  have hxn : x ∉ A.map (·.p) ++ B.map (·.p) := by
    rw [List.nodup_append] at hnd
    obtain ⟨_, n2, n3⟩ := hnd
    intro hm
    rcases List.mem_append.1 hm with hm | hm
    · exact n3 x hm x (by simp) rfl
    · exact (List.nodup_cons.1 n2).1 hm
  have hmem : ∀ y, (y ∈ tps (giveL L (gi L x)) ↔ y ≠ x ∧ y ∈ tps L) := fun y => by
    rw [t2, t1]
    constructor
    · intro hy
      refine ⟨fun e => hxn (e ▸ hy), ?_⟩
      rcases List.mem_append.1 hy with hy | hy
      · exact List.mem_append_left _ hy
      · exact List.mem_append_right _ (List.mem_cons_of_mem _ hy)
    · rintro ⟨hne, hy⟩
      rcases List.mem_append.1 hy with hy | hy
      · exact List.mem_append_left _ hy
      · rcases List.mem_cons.1 hy with hy | hy
        · exact absurd hy hne
        · exact List.mem_append_right _ hy
  refine ⟨by rw [e1, e2]; simp; omega, fun y => ?_, hmem⟩
  by_cases hyx : y = x
  · rw [if_pos hyx]
    exact gvv_no hw (fun hy => ((hmem y).1 hy).1 hyx)
  · rw [if_neg hyx]
    by_cases hy : y ∈ tps L
    · obtain ⟨r, hr, hp, hv⟩ := gvv_at hw ((hmem y).2 ⟨hyx, hy⟩)
      have hrL : r ∈ tk L := by
        rw [e2] at hr
        rw [e1]
        rcases List.mem_append.1 hr with hr | hr
        · exact List.mem_append_left _ hr
        · exact List.mem_append_right _ (List.mem_cons_of_mem _ hr)
      rw [hv, ← hp, (gvv_of h hrL).1]
    · rw [gvv_no h hy, gvv_no hw (fun hy' => hy ((hmem y).1 hy').2)]
/-- What is taken is held; all else is as it was. -/
theorem take_held {N n a : Int} {L : List Rn} (h : WF N L) (he : tke L n a = 0) :
    (tk (tkL L n a)).length = (tk L).length + 1 ∧ tkv L n a ∉ tps L ∧ (∀ y, gvv (tkL L n a) y = if y = tkv L n a then n else gvv L y) ∧ (∀ y, (y ∈ tps (tkL L n a) ↔ y = tkv L n a ∨ y ∈ tps L)) ∧ 1 ≤ n ∧ 1 ≤ a ∧ 0 ≤ tkv L n a ∧ tkv L n a ≤ N ∧ n ≤ N ∧ (tkv L n a).tmod a = 0 := by
  have hw := tk_wf h n a
  have hnd := tps_nodup hw
  unfold tke at he
  by_cases ha : askB n a = true
  · rw [if_pos ha] at he
    obtain ⟨h1, h2, h3⟩ := askB_parts ha
    rcases bst_is n a L L.length with ⟨hb, _⟩ | ⟨k, hb, hk, hf⟩
    · rw [if_pos hb] at he; cases he
    · obtain ⟨f1, f2⟩ := fit_parts hf
      have hp := (powB_bd h3).1
      have hus := up_spec (el L k).p hp
      have hbd := chain_at h.chain hk
      have ev : tkv L n a = up (el L k).p a := by unfold tkv; rw [if_pos ha, hb, if_neg (by omega), Int.toNat_natCast]
      have el' : tkL L n a = takeL L k (up (el L k).p a) n := by unfold tkL; rw [if_pos ha, hb, if_neg (by omega), Int.toNat_natCast]
      rw [el'] at hw hnd ⊢
      rw [ev]
      obtain ⟨A, B, e1, e2⟩ := tk_take h hk (u := up (el L k).p a) f1 h1
      have hrem := up_rem (el L k).p hp (by omega)
      generalize up (el L k).p a = u at *
      have t1 : tps L = A.map (·.p) ++ B.map (·.p) := by unfold tps; rw [e1, List.map_append]
      have t2 : tps (takeL L k u n) = A.map (·.p) ++ u :: B.map (·.p) := by unfold tps; rw [e2, List.map_append, List.map_cons]
      rw [t2] at hnd
      have hun : u ∉ tps L := by
        rw [t1]
        rw [List.nodup_append] at hnd
        obtain ⟨_, n2, n3⟩ := hnd
        intro hm
        rcases List.mem_append.1 hm with hm | hm
        · exact n3 u hm u (by simp) rfl
        · exact (List.nodup_cons.1 n2).1 hm
      have hmem : ∀ y, (y ∈ tps (takeL L k u n) ↔ y = u ∨ y ∈ tps L) := fun y => by
        rw [t2, t1]; simp only [List.mem_append, List.mem_cons]
        constructor
        · rintro (h | h | h)
          · exact .inr (.inl h)
          · exact .inl h
          · exact .inr (.inr h)
        · rintro (h | h | h)
          · exact .inr (.inl h)
          · exact .inl h
          · exact .inr (.inr h)
      refine ⟨by rw [e1, e2]; simp; omega, hun, fun y => ?_, hmem, h1, hp, by omega, by omega, by omega, hrem⟩
      by_cases hyu : y = u
      · rw [if_pos hyu, hyu]
        have : (⟨u, n, true⟩ : Rn) ∈ tk (takeL L k u n) := by rw [e2]; simp
        exact (gvv_of hw this).1
      · rw [if_neg hyu]
        by_cases hy : y ∈ tps L
        · obtain ⟨r, hr, hp, hv⟩ := gvv_at h hy
          have hrL : r ∈ tk (takeL L k u n) := by
            rw [e1] at hr
            rw [e2]
            rcases List.mem_append.1 hr with hr | hr
            · exact List.mem_append_left _ hr
            · exact List.mem_append_right _ (List.mem_cons_of_mem _ hr)
          rw [hv, ← hp, (gvv_of hw hrL).1]
        · rw [gvv_no h hy, gvv_no hw (fun hy' => ((hmem y).1 hy').elim hyu hy)]
  · rw [if_neg ha] at he; cases he
theorem take_not {L : List Rn} {n a : Int} (he : tke L n a ≠ 0) : tkL L n a = L := by
  unfold tke at he
  unfold tkL
  by_cases ha : askB n a = true
  · rw [if_pos ha] at he ⊢
    by_cases hb : bst n a L L.length = -1
    · rw [if_pos hb]
    · rw [if_neg hb] at he; exact absurd rfl he
  · rw [if_neg ha]
theorem give_not {L : List Rn} {x : Int} (hl : ¬ gi L x < L.length) : gvL L x = L := by unfold gvL; rw [if_neg hl]

/-! ### The map -/
abbrev DU := DataW Unit
def ky (x : Int) : Lit := .int .i64 x
def vz (x : Int) : DU := .lit (.int .i64 x)
/-- A map that tells of each page how many pages the span has that begins there. -/
structure Hm (w : World) (b n : Nat) (D : DU) (L : List Rn) : Prop where
  own : w.ownsMap Try.prog 3 (plainElem Try.prog 3) b n D
  val : ∀ x, D.atKey (ky x) (vz 0) = vz (gvv L x)
  has : ∀ x, Maps.has D (ky x) = true ↔ x ∈ tps L
  len : Maps.size D = (tk L).length
theorem law3 : Keyed Try.prog 3 := int_keyed Try.underlying3
theorem zero3' (w : World) : (zeroValue 3).run Try.prog w = .ok (.int .i64 0) w := by kernel_rfl
theorem ky_ne {x y : Int} (h : x ≠ y) : ky x ≠ ky y := fun e => h (by unfold ky at e; injection e)
theorem ky_lit (x : Int) : WideAt.IsKeyLit (ky x) := by unfold ky; simp [WideAt.IsKeyLit]
section
variable {w w' : World} {b n : Nat} {D : DU} {L : List Rn}
theorem Hm.of (h : Hm w b n D L) (e : w'.heap[b]? = w.heap[b]?) : Hm w' b n D L := by
  refine ⟨?_, h.val, h.has, h.len⟩
  obtain ⟨es, clock, hb, r⟩ := h.own
  exact ⟨es, clock, e.trans hb, r⟩
theorem Hm.look (h : Hm w b n D L) {x : Int} (hx : (Lit.int .i64 x).wf = true) : (Instr.lookup 49 (.map (some b)) (.int .i64 x) false).run Try.prog w = .ok (.int .i64 (gvv L x)) w := by
  obtain ⟨c, hrun, hat, _⟩ := h.own.lookup_int law3 Try.underlying49 Try.underlying3 (zero3' w) (keyOf_int_mk Try.underlying3 hx)
  have := h.val x
  unfold ky vz at this
  rw [hat] at this
  injection this with this
  injection this with _ this
  rw [hrun, this]
theorem Hm.gone {N x : Int} (h : Hm w b n D L) (hw : WF N L) (hl : gi L x < L.length) (ho : w'.ownsMap Try.prog 3 (plainElem Try.prog 3) b n (D.del (ky x))) : Hm w' b n (D.del (ky x)) (gvL L x) := by
  obtain ⟨g1, g2, g3⟩ := give_held hw hl
  refine ⟨ho, fun y => ?_, fun y => ?_, ?_⟩
  · rw [g2]
    by_cases e : y = x
    · rw [if_pos e, e, atKey_del_same]
    · rw [if_neg e, atKey_del_other (ky_ne e), h.val]
  · rw [g3]
    by_cases e : y = x
    · rw [e, has_del_same]; simp
    · rw [has_del_other (ky_ne e), h.has]; simp [e]
  · have := size_del (k := ky x) (h.own.tidy law3)
    rw [(h.has x).2 ((gi_iff hw x).1 hl)] at this
    simp at this
    have := h.len
    omega
theorem Hm.came {N m a : Int} (h : Hm w b n D L) (hw : WF N L) (he : tke L m a = 0) (ho : w'.ownsMap Try.prog 3 (plainElem Try.prog 3) b (n + 1) (D.put (ky (tkv L m a)) (vz m))) : Hm w' b (n + 1) (D.put (ky (tkv L m a)) (vz m)) (tkL L m a) := by
  obtain ⟨g1, g2, g3, g4, _⟩ := take_held hw he
  refine ⟨ho, fun y => ?_, fun y => ?_, ?_⟩
  · rw [g3]
    by_cases e : y = tkv L m a
    · rw [if_pos e, e, atKey_put_same h.own.isMap (ky_lit _)]
    · rw [if_neg e, atKey_put_other (ky_ne e), h.val]
  · rw [g4]
    by_cases e : y = tkv L m a
    · rw [e, has_put_same h.own.isMap (ky_lit _)]; simp
    · rw [has_put_other (ky_ne e), h.has]; simp [e]
  · rw [size_put (h.own.tidy law3)]
    have hf : Maps.has D (ky (tkv L m a)) = false := by
      cases hx : Maps.has D (ky (tkv L m a)) with
      | false => rfl
      | true => exact absurd ((h.has _).1 hx) g2
    rw [hf]
    have := h.len
    simp
    omega
end
theorem tk_new (N : Int) : tk (newL N) = [] := by
  unfold newL tk
  by_cases h : N = 0
  · rw [List.filter_cons_of_neg (by simp [ne, h])]; rfl
  · rw [List.filter_cons_of_pos (by simp [ne, h])]; rfl
theorem Hm.made (w : World) {N : Int} (h0 : 0 ≤ N) : Hm (w.alloc (.map #[] 0)) w.heap.size 0 (.map []) (newL N) := by
  refine ⟨World.ownsMap_made _ _ _ _, fun x => ?_, fun x => ?_, ?_⟩
  · rw [gvv_no (new_wf h0) (by unfold tps; rw [tk_new]; simp)]; rfl
  · unfold tps; rw [tk_new]; simp [Maps.has]
  · rw [tk_new]; rfl
end Go.Proofs.Ytbfcejmifmeigaa
