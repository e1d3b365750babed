/-
  What Clone and Each do: contracts that the claimed proofs use.
-/
import Derived.Test.YtjjilnklcjgndaaAppend
namespace Go.Proofs.Ytjjilnklcjgndaa
open Go.RowKit

/-- A row's first cells. -/
def frow (f : Nat → Int) (n : Nat) : List Value := (List.range n).map fun i => .int .i64 (f i)
theorem frow_length (f : Nat → Int) (n : Nat) : (frow f n).length = n := by simp [frow]
theorem frow_get {f : Nat → Int} {n i : Nat} (h : i < n) : (frow f n)[i]? = some (.int .i64 (f i)) := by simp [frow, h]
theorem own_row {w : World} {base g cap n : Nat} {f : Nat → Int} (h : w.ownsRow base 3 1 (.slice (some ⟨g, 0, none⟩) n cap) n (frow f n)) : Row w g n f ∧ base ≤ g := by
  rcases h.2 with ⟨h', _⟩ | ⟨g', cap', cur, h', hb, hh, _, _, _, ht⟩
  · simp at h'
  · simp only [Value.slice.injEq, Option.some.injEq, Addr.mk.injEq, and_true, true_and] at h'
    obtain ⟨rfl, rfl⟩ := h'
    refine ⟨⟨cur.toList, ?_, fun i hi => ?_⟩, hb⟩
    · unfold Blk; simpa using hh
    · rw [Nat.mul_one] at ht
      have := frow_get (f := f) hi
      rw [← ht, List.getElem?_take, if_pos hi] at this
      exact this
/-- What is left behind a row that is copied. -/
def Copied (n : Nat) (f : Nat → Int) (w : World) (e : Ending) (w' : World) : Prop := ∃ g cap, e = .returned (.slice (some ⟨g, 0, none⟩) n cap) ∧ Row w' g n f ∧ w.heap.size ≤ g ∧ Below w.heap.size w w'
theorem slice_nil (ad : Addr) (n c : Nat) (W : World) : (binOp BinOp.eql 37 (.slice (some ad) n c) (.slice none 0 0)).run Try.prog W = .ok (.bool false) W := rfl
theorem sclone_any (a n ca : Nat) (f : Nat → Int) (w : World) (h : Row w a n f) (hn : n ≤ 8192) : Calls Try.prog 31 #[.slice (some ⟨a, 0, none⟩) n ca] w (Copied n f w) := by
  obtain ⟨i0, hi0, hz0, hz1, hz2⟩ := info_parts int_info
  have hE : Below w.heap.size w (w.alloc (.cells #[] 3)) := up_alloc (Below.refl _ _) _
  have HE := Lib.hid hE
  have hr : Row (w.alloc (.cells #[] 3)) a n f := h.of (hE.block a h.lt)
  have HNews : Hid (∀ j v, (frow f n)[j]? = some v → (w.alloc (.cells #[] 3)).cell? ((⟨a, 0, none⟩ : Addr).add j) = some v) := fun j v hv => by
    have hj : j < n := by
      rcases Nat.lt_or_ge j n with hj | hj
      · exact hj
      · rw [List.getElem?_eq_none (by rw [frow_length]; exact hj)] at hv; cases hv
    rw [frow_get hj] at hv
    cases hv
    have e : (⟨a, 0, none⟩ : Addr).add j = ⟨a, j, none⟩ := by unfold Addr.add; split <;> simp_all
    rw [e]; exact hr.cell hj
  have HOne : Hid (∀ v ∈ frow f n, v.oneCell' = true) := fun v hv => by obtain ⟨i, _, rfl⟩ := List.mem_map.1 hv; rfl
  have OE := Lib.hid (own_empty w)
  have hnil := slice_nil ⟨a, 0, none⟩ n ca
  clear h hr hE
  go_enter Try.func31, Try.ntmps31
  go_wp2_with (at_builtin; refine wpList_append_own _ rfl _ _ 37 rfl w.heap.size 3 i0 _ 1 8 Try.underlying37 hi0 hz0 hz1 hz2 rfl (by omega) _ 0 [] rfl OE.out ⟨a, 0, none⟩ n ca (frow f n) rfl (by rw [frow_length, Nat.mul_one]) HNews.out HOne.out (by simp only [maxLen]; omega) (by omega) (by simp) ?_; intro v' w' h2 h3 h4)
  rcases h2.2 with ⟨rfl, _⟩ | ⟨g', cap', cur, rfl, _⟩
  · cases (h4.1 rfl).1
  · rw [Nat.zero_add, List.nil_append] at h2
    obtain ⟨hrow, hb⟩ := own_row h2
    have hbel := HE.out.trans ((Below.refl _ _).grown h3 (by simp) (own_base OE.out))
    clear h2 h3 h4
    go_wp2
    go_ret
    exact ⟨g', cap', by rw [Nat.zero_add]; rfl, hrow, hb, hbel⟩
set_option maxHeartbeats 2000000 in
theorem clone_w (p : Pl) (inn : Nat → Int) (cs nx pv : Nat → Nat) (w : World) (h : RM w p inn cs nx pv) :
    Calls Try.prog 19 #[.pointer (some ⟨p.q, 0, none⟩)] w fun e w' => ∃ pc : Pl, e = .returned (.pointer (some ⟨pc.q, 0, none⟩)) ∧ RM w' pc inn cs nx pv ∧ pc.n = p.n ∧ pc.m = p.m ∧ pc.lo = w.heap.size ∧ Below w.heap.size w w' := by
  have H := Lib.hid h.drew
  have hn := h.ok.n1
  have hm := h.ok.m1
  have g0 := h.s0
  have g1 := h.s1
  have g2 := h.s2
  have g3 := h.s3
  have HB0 : Hid (Below w.heap.size w w.drew) := (Below.refl _ w).drew
  clear h
  go_enter Try.func19, Try.ntmps19
  go_wp2_with fail
  go_region_held3 (fun W => W.cell? ⟨p.q, 0, none⟩ = some (.slice (some ⟨p.a, 0, none⟩) p.n p.ca) ∧ W.cell? ⟨p.q, 1, none⟩ = some (.slice (some ⟨p.b, 0, none⟩) p.m p.cb) ∧ W.cell? ⟨p.q, 2, none⟩ = some (.slice (some ⟨p.c, 0, none⟩) (p.n + p.m) p.cc) ∧ W.cell? ⟨p.q, 3, none⟩ = some (.slice (some ⟨p.d, 0, none⟩) (p.n + p.m) p.cd))
    (first | exact ⟨(R4.below (up_alloc (Below.refl _ _) _)).s0, (R4.below (up_alloc (Below.refl _ _) _)).s1, (R4.below (up_alloc (Below.refl _ _) _)).s2, (R4.below (up_alloc (Below.refl _ _) _)).s3⟩ | exact ⟨R4.s0, R4.s1, R4.s2, R4.s3⟩ | exact ⟨R3.s0, R3.s1, R3.s2, R3.s3⟩ | exact ⟨R2.s0, R2.s1, R2.s2, R2.s3⟩ | exact ⟨R1.s0, R1.s1, R1.s2, R1.s3⟩ | exact ⟨H.out.s0, H.out.s1, H.out.s2, H.out.s3⟩)
    ((first
      | (go_at_call 31; refine (sclone_any p.d (p.n + p.m) p.cd _ _ R3.r3 (by omega)).mono ?_; rintro e w4 ⟨c4, k4, rfl, q4, l4, b4⟩; have R4 := R3.below b4)
      | (go_at_call 31; refine (sclone_any p.c (p.n + p.m) p.cc _ _ R2.r2 (by omega)).mono ?_; rintro e w3 ⟨c3, k3, rfl, q3, l3, b3⟩; have R3 := R2.below b3)
      | (go_at_call 31; refine (sclone_any p.b p.m p.cb _ _ R1.r1 (by omega)).mono ?_; rintro e w2 ⟨c2, k2, rfl, q2, l2, b2⟩; have R2 := R1.below b2)
      | (go_at_call 31; refine (sclone_any p.a p.n p.ca _ _ H.out.r0 (by omega)).mono ?_; rintro e w1 ⟨c1, k1, rfl, q1, l1, b1⟩; have R1 := H.out.below b1)))
  have z1 := q1.lt
  have z2 := q2.lt
  have z3 := q3.lt
  have z4 := q4.lt
  have s1 : w.heap.size ≤ c1 := l1
  have t1 := b1.size
  have t2 := b2.size
  have t3 := b3.size
  have t4 := b4.size
  have Q1 := Lib.hid (((q1.of (b2.block _ z1)).of (b3.block _ (by omega))).of (b4.block _ (by omega)))
  have Q2 := Lib.hid ((q2.of (b3.block _ z2)).of (b4.block _ (by omega)))
  have Q3 := Lib.hid (q3.of (b4.block _ z3))
  have Q4 := Lib.hid q4
  have BB := Lib.hid (up_trans (up_trans (up_trans (up_trans HB0.out b1) b2) b3) b4)
  clear q1 q2 q3 q4 b1 b2 b3 b4 R1 R2 R3 R4 g0 g1 g2 g3
  go_wp2
  go_ret
  have hal : Below w4.heap.size w4 (w4.alloc (.cells #[.slice (some ⟨c1, 0, none⟩) p.n k1, .slice (some ⟨c2, 0, none⟩) p.m k2, .slice (some ⟨c3, 0, none⟩) (p.n + p.m) k3, .slice (some ⟨c4, 0, none⟩) (p.n + p.m) k4] 54)) := up_alloc (Below.refl _ _) _
  have hq : Blk (w4.alloc (.cells #[.slice (some ⟨c1, 0, none⟩) p.n k1, .slice (some ⟨c2, 0, none⟩) p.m k2, .slice (some ⟨c3, 0, none⟩) (p.n + p.m) k3, .slice (some ⟨c4, 0, none⟩) (p.n + p.m) k4] 54)) w4.heap.size [.slice (some ⟨c1, 0, none⟩) p.n k1, .slice (some ⟨c2, 0, none⟩) p.m k2, .slice (some ⟨c3, 0, none⟩) (p.n + p.m) k3, .slice (some ⟨c4, 0, none⟩) (p.n + p.m) k4] 54 := heap_alloc_new w4 _
  have ts : w.heap.size ≤ w1.heap.size := t1
  refine ⟨⟨w.heap.size, w4.heap.size + 1, w4.heap.size, c1, c2, c3, c4, k1, k2, k3, k4, p.n, p.m⟩, rfl, ⟨?_, by show w4.heap.size + 1 ≤ _; rw [World.size_alloc]; exact Nat.le_refl _, hq.cell, hq.cell, hq.cell, hq.cell, Q1.out.of (hal.block _ (by omega)), Q2.out.of (hal.block _ (by omega)), Q3.out.of (hal.block _ (by omega)), Q4.out.of (hal.block _ z4)⟩, rfl, rfl, rfl, up_alloc BB.out _⟩
  constructor <;> dsimp only <;> omega
theorem clone_r {w : World} {p : Pl} {L : Nat → List Nat} (h : Ring w p L) :
    Calls Try.prog 19 #[.pointer (some ⟨p.q, 0, none⟩)] w fun e w' => ∃ pc : Pl, e = .returned (.pointer (some ⟨pc.q, 0, none⟩)) ∧ Ring w' pc L ∧ pc.n = p.n ∧ pc.m = p.m ∧ pc.lo = w.heap.size ∧ Below w.heap.size w w' := by
  obtain ⟨inn, cs, nx, pv, h, hf⟩ := h
  refine (clone_w p inn cs nx pv w h).mono ?_
  rintro e w' ⟨pc, he, hr, hn, hm, hlo, hb⟩
  exact ⟨pc, he, ⟨_, _, _, _, hr, by rw [hn, hm]; exact hf⟩, hn, hm, hlo, hb⟩
theorem each_any (q : Nat) (i : Int) (w : World) : Calls Try.prog 20 #[.pointer (some ⟨q, 0, none⟩), .int .i64 i] w fun e w' =>
    e = .returned (.func (.func 32) #[] #[.pointer (some ⟨w.heap.size, 0, none⟩), .pointer (some ⟨w.heap.size + 1, 0, none⟩)]) ∧ w' = (w.alloc (.cells #[.pointer (some ⟨q, 0, none⟩)] 25)).alloc (.cells #[.int .i64 i] 3) := by
  have hmf : ∀ (fn : Fn) (first cap : Array Value) (w : World), (Instr.makeFunc fn first cap).run Try.prog w = .ok (.func fn first cap) w := fun _ _ _ _ => rfl
  go_enter Try.func20, Try.ntmps20
  go_wp2
  go_ret
  exact ⟨rfl, rfl⟩
end Go.Proofs.Ytjjilnklcjgndaa
