/-
  Places in order, by the library's sort: contracts that the claimed proofs use.
-/
import Derived.Test.YtbgacchbldgaeaaSmall
import Derived.Test.YtbgacchbldgaeaaLay
namespace Go.Proofs.Ytbgacchbldgaeaa
open Go.Shelf Go.RowKit Go.Lib Go.Sort

def cmpI (a b : Int) : Int := if a < b then -1 else if b < a then 1 else 0
/-- How two places compare. -/
def cf (x y : Int × Int) : Int := if cmpI x.1 y.1 = 0 then cmpI x.2 y.2 else cmpI x.1 y.1
set_option maxHeartbeats 1000000 in
theorem nan_any (x : Int) (w : World) : Calls Try.prog 58 #[.int .i64 x] w fun e w' => e = .returned (.bool false) ∧ w = w' := by
  have h : (x != x) = false := by simp
  go_enter Try.func58, Try.ntmps58
  go_wp2_with fail
  go_ret
  exact ⟨rfl, rfl⟩
set_option maxHeartbeats 1000000 in
theorem compare_any (x y : Int) (w : World) : Calls Try.prog 44 #[.int .i64 x, .int .i64 y] w fun e w' => e = .returned (.int .i64 (cmpI x y)) ∧ w = w' := by
  have HN := Lib.hid (fun x W => nan_any x W)
  obtain ⟨E, hE⟩ : ∃ E, cmpI x y = E := ⟨_, rfl⟩
  have HE := Lib.hid hE
  rw [hE]
  clear hE
  by_cases h1 : x < y
  · obtain rfl : E = -1 := by rw [← HE.out]; unfold cmpI; rw [if_pos h1]
    have d1 : decide (x < y) = true := by simpa using h1
    clear h1
    go_enter Try.func44, Try.ntmps44
    go_wp2_with (go_at_call 58; refine (HN.out _ _).mono ?_; rintro e w' ⟨rfl, rfl⟩)
    go_ret
    exact ⟨rfl, rfl⟩
  · have d1 : decide (x < y) = false := by simpa using h1
    by_cases h2 : y < x
    · obtain rfl : E = 1 := by rw [← HE.out]; unfold cmpI; rw [if_neg h1, if_pos h2]
      have d2 : decide (y < x) = true := by simpa using h2
      clear h1 h2
      go_enter Try.func44, Try.ntmps44
      go_wp2_with (go_at_call 58; refine (HN.out _ _).mono ?_; rintro e w' ⟨rfl, rfl⟩)
      go_ret
      exact ⟨rfl, rfl⟩
    · obtain rfl : E = 0 := by rw [← HE.out]; unfold cmpI; rw [if_neg h1, if_neg h2]
      have d2 : decide (y < x) = false := by simpa using h2
      clear h1 h2
      go_enter Try.func44, Try.ntmps44
      go_wp2_with (go_at_call 58; refine (HN.out _ _).mono ?_; rintro e w' ⟨rfl, rfl⟩)
      go_ret
      exact ⟨rfl, rfl⟩
set_option maxHeartbeats 1000000 in
theorem or_any (g : Nat) (a b : Int) (w : World) (h : Blk w g [.int .i64 a, .int .i64 b] 3) : Calls Try.prog 43 #[.slice (some ⟨g, 0, none⟩) 2 2] w fun e w' => e = .returned (.int .i64 (if a = 0 then b else a)) ∧ w = w' := by
  have c0 : w.cell? ⟨g, 0, none⟩ = some (.int .i64 a) := h.cell
  have c1 : w.cell? ⟨g, 1, none⟩ = some (.int .i64 b) := h.cell
  obtain ⟨E, hE⟩ : ∃ E, (if a = 0 then b else a) = E := ⟨_, rfl⟩
  have HE := Lib.hid hE
  rw [hE]
  clear hE h
  go_enter Try.func43, Try.ntmps43
  go_wp2_with fail
  go_loop [8] (fun k => ∃ K : Nat, K ≤ 2 ∧ k = .int .i64 K ∧ (0 < K → a = 0) ∧ (1 < K → b = 0)) (fun k => 2 - (intOf k).toNat)
  case atStart => exact ⟨0, by omega, rfl, by omega, by omega⟩
  case round =>
    obtain ⟨K, hK, rfl, h0, h1⟩ := hrel
    rcases (by omega : K = 0 ∨ K = 1 ∨ K = 2) with rfl | rfl | rfl
    · by_cases ha : a = 0
      · have d : (a != 0) = false := by simpa using ha
        clear h0 h1
        go_wp2_with fail
        go_round
        case rel => exact ⟨1, by omega, by go_num, fun _ => ha, by omega⟩
        case measure => simp [intOf]
      · obtain rfl : E = a := by rw [← HE.out, if_neg ha]
        have d : (E != 0) = true := by simpa using ha
        clear h0 h1 ha
        go_wp2_with fail
        go_ret
        exact ⟨rfl, rfl⟩
    · have ha := h0 (by omega)
      obtain rfl : E = b := by rw [← HE.out, if_pos ha]
      by_cases hb : E = 0
      · have d : (E != 0) = false := by simpa using hb
        have HB := Lib.hid hb
        have HA := Lib.hid ha
        clear h0 h1 ha hb
        go_wp2_with fail
        go_round
        case rel => exact ⟨2, by omega, by go_num, fun _ => HA.out, fun _ => HB.out⟩
        case measure => simp [intOf]
      · have d : (E != 0) = true := by simpa using hb
        clear h0 h1 ha hb
        go_wp2_with fail
        go_ret
        exact ⟨rfl, rfl⟩
    · have ha := h0 (by omega)
      have hb := h1 (by omega)
      obtain rfl : E = 0 := by rw [← HE.out, if_pos ha, hb]
      clear h0 h1 ha hb
      go_wp2_with fail
      go_ret
      exact ⟨rfl, rfl⟩
set_option maxRecDepth 100000 in
set_option maxHeartbeats 1000000 in
theorem order_any (x y : Int × Int) (W : World) : Calls Try.prog 33 #[pv x.1 x.2, pv y.1 y.2] W fun e w' => e = .returned (.int .i64 (cf x y)) ∧ ∃ q os', w' = grow (W.drewN q) os' := by
  obtain ⟨a, b⟩ := x
  obtain ⟨c, d⟩ := y
  have H1 := Lib.hid (fun w => compare_any a c w)
  have H2 := Lib.hid (fun w => compare_any b d w)
  unfold cf
  simp only []
  generalize cmpI a c = r1 at *
  generalize cmpI b d = r2 at *
  obtain ⟨E, hE⟩ : ∃ E, (if r1 = 0 then r2 else r1) = E := ⟨_, rfl⟩
  rw [hE]
  have HO := Lib.hid (fun g w h => or_any g r1 r2 w h)
  rw [hE] at HO
  clear hE
  obtain ⟨W1, hW1⟩ : ∃ W1, (W.alloc (.cells #[.int .i64 a, .int .i64 b] 24)).alloc (.cells #[.int .i64 c, .int .i64 d] 24) = W1 := ⟨_, rfl⟩
  have hx : Blk W1 W.heap.size [.int .i64 a, .int .i64 b] 24 := by rw [← hW1]; exact (Blk.new W [.int .i64 a, .int .i64 b] 24).below (up_alloc (Below.refl _ _) _)
  have hy : Blk W1 (W.heap.size + 1) [.int .i64 c, .int .i64 d] 24 := by rw [← hW1]; have := Blk.new (W.alloc (.cells #[.int .i64 a, .int .i64 b] 24)) [.int .i64 c, .int .i64 d] 24; rwa [World.size_alloc] at this
  have c0 : W1.cell? ⟨W.heap.size, 0, none⟩ = some (.int .i64 a) := hx.cell
  have c1 : W1.cell? ⟨W.heap.size, 1, none⟩ = some (.int .i64 b) := hx.cell
  have c2 : W1.cell? ⟨W.heap.size + 1, 0, none⟩ = some (.int .i64 c) := hy.cell
  have c3 : W1.cell? ⟨W.heap.size + 1, 1, none⟩ = some (.int .i64 d) := hy.cell
  have HW : Hid (∃ os, W1 = grow W os) := ⟨_, by rw [← hW1, alloc_eq_grow, alloc_eq_grow, grow_grow]⟩
  clear hx hy
  go_enter Try.func33, Try.ntmps33
  go_wp2_with fail
  clear hW1
  refine wp_region_still_tail 10 (by kernel_rfl) (by kernel_rfl) ?_
  simp only [List.take_succ_cons, List.take_zero, List.drop_succ_cons, List.drop_zero]
  iterate 4 still_step
  still_call ((H1.out _).mono (fun e w' h => ⟨h.1, h.2.symm⟩))
  iterate 4 still_step
  still_call ((H2.out _).mono (fun e w' h => ⟨h.1, h.2.symm⟩))
  refine wpStill_nil ?_
  change wpList _ _ _ _ _ W1.drew
  go_wp2_with fail
  refine (HO.out _ _ (Blk.new W1.drew [.int .i64 r1, .int .i64 r2] 3)).mono ?_
  rintro e w' ⟨rfl, rfl⟩
  go_wp2_with fail
  go_ret
  obtain ⟨os, rfl⟩ := HW.out
  exact ⟨rfl, 1, _, by simp only [alloc_eq_grow, drew_grow, grow_grow]; rfl⟩
theorem cf_lt (x y : Int × Int) : ltOf cf x y = decide (x.1 < y.1 ∨ x.1 = y.1 ∧ x.2 < y.2) := by
  unfold ltOf
  rw [Bool.eq_iff_iff, decide_eq_true_eq, decide_eq_true_eq]
  unfold cf cmpI
  by_cases h1 : x.1 < y.1
  · simp [h1]
  · by_cases h2 : y.1 < x.1
    · simp [h1, h2]; omega
    · have e : x.1 = y.1 := by omega
      simp only [if_false, if_true, e, Int.lt_irrefl]
      by_cases h3 : x.2 < y.2
      · simp [h3]
      · by_cases h4 : y.2 < x.2
        · simp [h3, h4]
        · simp [h3, h4]
theorem cf_swo : SWO (ltOf cf) where
  irrefl x := by rw [cf_lt]; simp
  trans x y z h1 h2 := by rw [cf_lt] at *; simp only [decide_eq_true_eq] at *; omega
  ntrans x y z h1 h2 := by rw [cf_lt] at *; simp only [decide_eq_false_iff_not] at *; omega
def enc (x : Int × Int) : List Value := [.int .i64 x.1, .int .i64 x.2]
theorem cmp_lays (blk off size : Nat) (w : World) : CmpLays Try.prog 33 #[] enc 2 cf blk off size w := fun _ _ _ _ x y => order_any x y _
/-- The sort at a row of places: they lie in order behind it, and nothing else has changed. -/
theorem sort_row (g cap : Nat) (d : Array (Int × Int)) (w : World) (hH : HoldsK enc 2 w g 0 d) (hg : g < w.heap.size) (hsz : d.size < 4611686018427387904) :
    Calls Try.prog 32 #[.slice (some ⟨g, 0, none⟩) d.size cap, .func (.func 33) #[] #[]] w fun e w' => e = .returned (.tuple #[]) ∧ ∃ d' n os, PermIn 0 d.size d d' ∧ SortedIn (ltOf cf) 0 d.size d' ∧ w' = sortWorldK enc 2 w g 0 n d' os :=
  AnyQ.slices_SortFunc sortPl 2 Try.isAgg24 Try.sizeOf24 enc (fun _ => rfl) (fun x v hv => by simp [enc] at hv; rcases hv with rfl | rfl <;> rfl) cf cf_swo 33 #[] g 0 cap d w (enters_of Try.func33 (by kernel_rfl) rfl) (cmp_lays g 0 d.size w) hH hg hsz
end Go.Proofs.Ytbgacchbldgaeaa
