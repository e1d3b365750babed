/-
  What New, Runs, index and Find do: contracts that the claimed proofs use.
-/
import Derived.Test.YtjnknnakllbaaaaGreatSpDel
namespace Go.Proofs.YtjnknnakllbaaaaGreat.Sp
set_option maxRecDepth 100000
open Go.RowKit

/-- leaveOutEmpty. -/
theorem leave_any {w : World} {q g : Nat} {L : List Rn} (h : Sp w q g L) (hl : L.length ≤ 8192) :
    Calls Tryz.prog 76 #[.pointer (some ⟨q, 0, none⟩)] w fun e w' => e = .returned (.tuple #[]) ∧ Sp w' q g (L.filter ne) ∧ Fr q g w w' := by
  obtain ⟨cap, hq, hr, hne⟩ := h
  have c0 : w.cell? ⟨q, 0, none⟩ = some (.slice (some ⟨g, 0, none⟩) L.length cap) := hq.cell
  have HQ := Lib.hid hq
  have HD := Lib.hid (del_any hr rfl hl)
  have HNE := Lib.hid hne
  clear hq hr hne
  generalize L.length = n at c0 HQ HD hl
  generalize L.filter ne = L' at HD ⊢
  go_enter Tryz.func76, Tryz.ntmps76
  go_wp2_with fail
  refine HD.out.mono ?_
  rintro e w1 ⟨rfl, r1, g1⟩
  have Q1 := Lib.hid (HQ.out.of (g1.block q HQ.out.lt (by simpa using HNE.out)))
  have c1 : w1.cell? ⟨q, 0, none⟩ = some (.slice (some ⟨g, 0, none⟩) n cap) := Q1.out.cell
  have f1 : w1.frozen? ⟨q, 0, none⟩ = false := Q1.out.frozen 0
  have R1 := Lib.hid r1
  have G1 := Lib.hid g1
  clear r1 g1 c0 HD
  go_wp2
  go_end0
  refine ⟨rfl, ⟨cap, Q1.out.set _, R1.out.of (Below.heap_setCell _ _ _ _ (fun e => HNE.out e.symm)), HNE.out⟩, ?_⟩
  exact (Fr.ofg G1.out).trans (Fr.ofq (grown_set _ _ _ _)) (.inl rfl)
/-- New. -/
theorem new_no (N : Int) (w : World) (h : N < 0 ∨ 4096 < N) : Calls Tryz.prog 41 #[.int .i64 N] w fun e w' => e = .returned (.tuple #[.pointer none, .int .i64 11]) ∧ w = w' := by
  by_cases h0 : N < 0
  · have hd : decide (N < 0) = true := by simpa using h0
    go_enter Tryz.func41, Tryz.ntmps41
    go_wp2
    go_ret2
    exact ⟨rfl, rfl⟩
  · have hd : decide (N < 0) = false := by simpa using h0
    have hd2 : decide (4096 < N) = true := by simp; omega
    go_enter Tryz.func41, Tryz.ntmps41
    go_wp2
    go_ret2
    exact ⟨rfl, rfl⟩
theorem new_yes (N : Int) (w : World) (h0 : 0 ≤ N) (h1 : N ≤ 4096) :
    Calls Tryz.prog 41 #[.int .i64 N] w fun e w' => ∃ q g, e = .returned (.tuple #[.pointer (some ⟨q, 0, none⟩), .int .i64 0]) ∧ Sp w' q g (newL N) ∧ w.heap.size ≤ q ∧ w.heap.size ≤ g ∧ Below w.heap.size w w' := by
  have hd : decide (N < 0) = false := by simp; omega
  have hd2 : decide (4096 < N) = false := by simp; omega
  go_enter Tryz.func41, Tryz.ntmps41
  go_wp2_with fail
  have hs : Sp ((w.alloc (.cells #[.int .i64 0, .int .i64 N, .bool false] 107)).alloc (.cells #[.slice (some ⟨w.heap.size, 0, none⟩) 1 1] 125)) (w.heap.size + 1) w.heap.size [⟨0, N, false⟩] := by
    have h1 : Blk (w.alloc (.cells #[.int .i64 0, .int .i64 N, .bool false] 107)) w.heap.size [.int .i64 0, .int .i64 N, .bool false] 107 := heap_alloc_new w _
    have hq := heap_alloc_new (w.alloc (.cells #[.int .i64 0, .int .i64 N, .bool false] 107)) (.cells #[.slice (some ⟨w.heap.size, 0, none⟩) 1 1] 125)
    rw [World.size_alloc] at hq
    exact ⟨1, hq, ⟨_, h1.of (heap_alloc_old _ _ h1.lt), rfl, Nat.le_refl _, by simp [maxLen], rfl⟩, by omega⟩
  have hb : Below w.heap.size w ((w.alloc (.cells #[.int .i64 0, .int .i64 N, .bool false] 107)).alloc (.cells #[.slice (some ⟨w.heap.size, 0, none⟩) 1 1] 125)) := up_alloc (up_alloc (Below.refl _ w) _) _
  have HB := Lib.hid hb
  refine (leave_any hs (by simp)).mono ?_
  rintro e w1 ⟨rfl, s1, f1⟩
  have S1 := Lib.hid s1
  have HB1 := Lib.hid (HB.out.trans (f1.below (B := w.heap.size) (by omega) (by omega) hb.size))
  clear s1 f1 hs hb
  go_wp2
  go_ret2
  exact ⟨_, _, rfl, S1.out, by omega, by omega, HB1.out⟩
/-- slices.Clone, and Runs. -/
theorem slice_nil (ad : Addr) (n c : Nat) (W : World) : (binOp BinOp.eql 110 (.slice (some ad) n c) (.slice none 0 0)).run Tryz.prog W = .ok (.bool false) W := rfl
theorem own_empty (w : World) : (w.alloc (.cells #[] 107)).ownsRow w.heap.size 107 3 (.slice (some ⟨w.heap.size, 0, none⟩) 0 0) 0 [] :=
  ⟨rfl, .inr ⟨w.heap.size, 0, #[], rfl, Nat.le_refl _, heap_alloc_new w _, Nat.le_refl _, by decide, rfl, rfl⟩⟩
theorem own_base {w : World} {base : Nat} {e : TypeId} {size : Nat} {v : Value} {n : Nat} {xs : List Value} (h : w.ownsRow base e size v n xs) : ∀ g, v.ownBlock = some g → base ≤ g := by
  intro g hg
  rcases h.2 with ⟨rfl, _⟩ | ⟨g', cap, cur, rfl, hb, _⟩
  · simp [Value.ownBlock] at hg
  · simp [Value.ownBlock] at hg; omega
/-- What is left behind a call that answers runs of its own. -/
def GaveR (L : List Rn) (w : World) (e : Ending) (w' : World) : Prop := ∃ g cap, e = .returned (.slice (some ⟨g, 0, none⟩) L.length cap) ∧ Rw w' g cap L ∧ w.heap.size ≤ g ∧ Below w.heap.size w w'
theorem Rw.news {w : World} {g cap : Nat} {L : List Rn} (h : Rw w g cap L) : ∀ j v, (rcs L)[j]? = some v → w.cell? ((⟨g, 0, none⟩ : Addr).add j) = some v := by
  have := (h.owns (Nat.le_refl _)).cells (g := g) rfl
  rwa [List.take_of_length_le (Nat.le_refl _)] at this
theorem clone_any {w : World} {g cap n : Nat} {L : List Rn} (hr : Rw w g cap L) (hn : L.length = n) (hl : n ≤ 8192) : Calls Tryz.prog 87 #[.slice (some ⟨g, 0, none⟩) n cap] w (GaveR L w) := by
  obtain ⟨i0, hi0, hz0, hz1, hz2⟩ := info_parts run_info
  have hE : Below w.heap.size w (w.alloc (.cells #[] 107)) := up_alloc (Below.refl _ _) _
  have HE := Lib.hid hE
  have HNews := Lib.hid (hr.below hE).news
  have HOne := Lib.hid (rcs_one L)
  have OE := Lib.hid (own_empty w)
  have HN := Lib.hid hn
  have hnil := slice_nil ⟨g, 0, none⟩ n cap
  clear hr hE hn
  go_enter Tryz.func87, Tryz.ntmps87
  go_wp2_with (at_builtin; refine wpList_append_own _ rfl _ _ 110 rfl w.heap.size 107 i0 _ 3 24 Tryz.underlying110 hi0 hz0 hz1 hz2 rfl (by omega) _ 0 [] rfl OE.out ⟨g, 0, none⟩ n cap (rcs L) rfl (by rw [rcs_length, HN.out]) HNews.out HOne.out (by simp only [maxLen]; omega) (by omega) (by simp) ?_; intro v' w' h2 h3 h4)
  rcases h2.2 with ⟨rfl, _⟩ | ⟨g', cap', cur, rfl, _⟩
  · cases (h4.1 rfl).1
  · rw [Nat.zero_add, List.nil_append] at h2
    obtain ⟨hrow, hb⟩ := Rw.owned h2 HN.out
    have hbel := HE.out.trans ((Below.refl _ _).grown h3 (by simp) (own_base OE.out))
    clear h2 h3 h4
    go_wp2
    go_ret
    exact ⟨g', cap', by rw [Nat.zero_add, HN.out]; rfl, hrow, hb, hbel⟩
theorem runs_any {w : World} {q g : Nat} {L : List Rn} (h : Sp w q g L) (hl : L.length ≤ 8192) : Calls Tryz.prog 56 #[.pointer (some ⟨q, 0, none⟩)] w (GaveR L w) := by
  obtain ⟨cap, hq, hr, hne⟩ := h
  have c0 : w.cell? ⟨q, 0, none⟩ = some (.slice (some ⟨g, 0, none⟩) L.length cap) := hq.cell
  have HC := Lib.hid (clone_any hr rfl hl)
  obtain ⟨n, hn⟩ : ∃ n, L.length = n := ⟨_, rfl⟩
  have HN := Lib.hid hn
  rw [hn] at c0 HC
  clear hq hr hne hn hl
  go_enter Tryz.func56, Tryz.ntmps56
  go_wp2_with (go_at_call 87; refine HC.out.mono ?_; rintro e w1 ⟨g', cap', rfl, r1, h1, b1⟩)
  go_ret
  exact ⟨g', cap', rfl, r1, h1, b1⟩
/-! ### Where a page's run stands -/
theorem ends_any {w : World} {q g cap n bp bs : Nat} {L : List Rn} (x : Int) {k : Nat} (hb : w.cell? ⟨bp, 0, none⟩ = some (.int .i64 x)) (hs : w.cell? ⟨bs, 0, none⟩ = some (.pointer (some ⟨q, 0, none⟩)))
    (hq : w.cell? ⟨q, 0, none⟩ = some (.slice (some ⟨g, 0, none⟩) n cap)) (hr : Rw w g cap L) (hn : L.length = n) (hk : k < n) (h0 : 0 ≤ (el L k).p ∧ (el L k).p ≤ 4096 ∧ 0 ≤ (el L k).n ∧ (el L k).n ≤ 4096) :
    Calls Tryz.prog 115 #[.int .i64 (k : Int), .pointer (some ⟨bp, 0, none⟩), .pointer (some ⟨bs, 0, none⟩)] w fun e w' => e = .returned (.bool (decide (x < (el L k).p + (el L k).n))) ∧ Drawn w w' := by
  obtain ⟨c0, c1, c2⟩ := hr.cells (i := k) (by omega)
  generalize el L k = r at h0 c0 c1 c2 ⊢
  obtain ⟨p, m, t⟩ := r
  dsimp only at h0 c0 c1 ⊢
  have hwr := i64_in (p + m) (by omega) (by omega)
  have k1 : (0 : Int) ≤ (k : Int) := by omega
  have k2 : (k : Int) < (n : Int) := by omega
  clear hr hn
  go_enter Tryz.func115, Tryz.ntmps115
  go_wp2_with fail
  go_quiet (fail)
  go_wp2
  go_ret
  exact ⟨rfl, (Drawn.refl _).on _⟩
/-- Of runs with these ends the first one behind a page. -/
structure Ends (L : List Rn) (x : Int) (J n : Nat) : Prop where
  le : J ≤ n
  lo : ∀ k, k < J → (el L k).p + (el L k).n ≤ x
  hi : ∀ k, J ≤ k → k < n → x < (el L k).p + (el L k).n
set_option maxHeartbeats 1000000 in
theorem search_any {w : World} {q g cap n bp bs : Nat} {L : List Rn} {x : Int} {J : Nat} (hb : w.cell? ⟨bp, 0, none⟩ = some (.int .i64 x)) (hs : w.cell? ⟨bs, 0, none⟩ = some (.pointer (some ⟨q, 0, none⟩)))
    (hq : w.cell? ⟨q, 0, none⟩ = some (.slice (some ⟨g, 0, none⟩) n cap)) (hr : Rw w g cap L) (hn : L.length = n) (hl : n ≤ 8192) (hE : ∀ k, k < n → 0 ≤ (el L k).p ∧ (el L k).p ≤ 4096 ∧ 0 ≤ (el L k).n ∧ (el L k).n ≤ 4096) (hJ : Ends L x J n) :
    Calls Tryz.prog 114 #[.int .i64 (n : Int), .func (.func 115) #[] #[.pointer (some ⟨bp, 0, none⟩), .pointer (some ⟨bs, 0, none⟩)]] w fun e w' => e = .returned (.int .i64 (J : Int)) ∧ Drawn w w' := by
  have HC : Hid (∀ (W : World) (k : Nat), Drawn w W → k < n → Calls Tryz.prog 115 #[.int .i64 (k : Int), .pointer (some ⟨bp, 0, none⟩), .pointer (some ⟨bs, 0, none⟩)] W fun e w' => e = .returned (.bool (decide (x < (el L k).p + (el L k).n))) ∧ Drawn W w') :=
    fun W k hW hk => ends_any x (hW.cell hb) (hW.cell hs) (hW.cell hq) (hr.below hW.below) hn hk (hE k hk)
  have HJ := Lib.hid hJ
  have hJn := hJ.le
  clear hb hs hq hr hn hE hJ
  go_enter Tryz.func114, Tryz.ntmps114
  go_wp2
  go_loopw [5, 6] (fun i j wr => ∃ i' j' : Nat, i = .int .i64 i' ∧ j = .int .i64 j' ∧ i' ≤ J ∧ J ≤ j' ∧ j' ≤ n ∧ Drawn w wr) (fun i j _ => (intOf j).toNat - (intOf i).toNat)
  case atStart => exact ⟨0, n, rfl, rfl, by omega, hJn, by omega, Drawn.refl _⟩
  case round =>
    obtain ⟨i, j, rfl, rfl, h1, h2, h3, hd⟩ := hrel
    have HD := Lib.hid hd
    clear hd
    by_cases hlt : i < j
    · obtain ⟨m, hm⟩ : ∃ m, (i + j) / 2 = m := ⟨_, rfl⟩
      have e1 : ((i : Int) + (j : Int)) / 2 = (m : Int) := by omega
      have HCm := Lib.hid (fun W hW => HC.out W m hW (by omega))
      have hmi : i ≤ m := by omega
      have hmj : m < j := by omega
      have k2 : (i : Int) < (j : Int) := by omega
      clear hm
      by_cases hx : m < J
      · have hdx : decide (x < (el L m).p + (el L m).n) = false := by have := HJ.out.lo m hx; simp; omega
        rw [hdx] at HCm
        clear hdx
        go_wp2_with fail
        refine (HCm.out _ HD.out).mono ?_
        rintro e w2 ⟨rfl, d2⟩
        have HD2 := Lib.hid (HD.out.trans d2)
        clear d2 HCm
        go_wp2
        go_roundw
        case rel => exact ⟨m + 1, j, by go_num, rfl, by omega, by omega, by omega, HD2.out⟩
        case measure => simp [intOf]; omega
      · have hdx : decide (x < (el L m).p + (el L m).n) = true := by have := HJ.out.hi m (by omega) (by omega); simp; omega
        rw [hdx] at HCm
        clear hdx
        go_wp2_with fail
        refine (HCm.out _ HD.out).mono ?_
        rintro e w2 ⟨rfl, d2⟩
        have HD2 := Lib.hid (HD.out.trans d2)
        clear d2 HCm
        go_wp2
        go_roundw
        case rel => exact ⟨i, m, rfl, rfl, by omega, by omega, by omega, HD2.out⟩
        case measure => simp [intOf]; omega
    · obtain rfl : i = J := by omega
      obtain rfl : i = j := by omega
      go_wp2
      go_ret
      exact ⟨rfl, HD.out⟩
theorem make_func (fn : Fn) (first cap : Array Value) (w : World) : (Instr.makeFunc fn first cap).run Tryz.prog w = .ok (.func fn first cap) w := rfl
/-- The bounds of runs that lie side by side. -/
theorem WF.bds {N : Int} {L : List Rn} (h : WF N L) (hN : N ≤ 4096) {k : Nat} (hk : k < L.length) : 0 ≤ (el L k).p ∧ (el L k).p ≤ 4096 ∧ 0 ≤ (el L k).n ∧ (el L k).n ≤ 4096 := by
  have := chain_at h.chain hk; omega
theorem Ends.len {L : List Rn} {x : Int} {J n : Nat} (h : Ends L x J n) : J ≤ n := h.le
theorem index_w {w : World} {q g J : Nat} {N x : Int} {L : List Rn} (h : Sp w q g L) (hw : WF N L) (hN : N ≤ 4096) (hJ : Ends L x J L.length) (b : Bool) (hb : b = decide (0 ≤ x ∧ J < L.length)) :
    Calls Tryz.prog 85 #[.pointer (some ⟨q, 0, none⟩), .int .i64 x] w fun e w' => e = .returned (.int .i64 (if b then (J : Int) else -1)) ∧ Below w.heap.size w w' := by
  obtain ⟨cap, hq, hr, hne⟩ := h
  have hlen := hw.len
  have HB : Below w.heap.size w ((w.alloc (.cells #[.pointer (some ⟨q, 0, none⟩)] 81)).alloc (.cells #[.int .i64 x] 3)) := up_alloc (up_alloc (Below.refl _ w) _) _
  have q2 := hq.of (HB.block _ hq.lt)
  have b1 : Blk (w.alloc (.cells #[.pointer (some ⟨q, 0, none⟩)] 81)) w.heap.size [.pointer (some ⟨q, 0, none⟩)] 81 := heap_alloc_new w _
  have b2 : Blk ((w.alloc (.cells #[.pointer (some ⟨q, 0, none⟩)] 81)).alloc (.cells #[.int .i64 x] 3)) w.heap.size [.pointer (some ⟨q, 0, none⟩)] 81 := b1.of (heap_alloc_old _ _ b1.lt)
  have b3 : Blk ((w.alloc (.cells #[.pointer (some ⟨q, 0, none⟩)] 81)).alloc (.cells #[.int .i64 x] 3)) (w.heap.size + 1) [.int .i64 x] 3 := by
    have := heap_alloc_new (w.alloc (.cells #[.pointer (some ⟨q, 0, none⟩)] 81)) (.cells #[.int .i64 x] 3)
    rwa [World.size_alloc] at this
  generalize hW : (w.alloc (.cells #[.pointer (some ⟨q, 0, none⟩)] 81)).alloc (.cells #[.int .i64 x] 3) = W at HB q2 b2 b3
  have HS := Lib.hid (search_any (w := W) (bp := w.heap.size + 1) (bs := w.heap.size) b3.cell b2.cell q2.cell (hr.below HB) rfl (by omega) (fun k hk => hw.bds hN hk) hJ)
  have HBB := Lib.hid HB
  have hJl := hJ.le
  have d0 : ∀ W2, Drawn W W2 → W2.cell? ⟨w.heap.size + 1, 0, none⟩ = some (.int .i64 x) := fun W2 hd => hd.cell b3.cell
  have d1 : ∀ W2, Drawn W W2 → W2.cell? ⟨w.heap.size, 0, none⟩ = some (.pointer (some ⟨q, 0, none⟩)) := fun W2 hd => hd.cell b2.cell
  have d2 : ∀ W2, Drawn W W2 → W2.cell? ⟨q, 0, none⟩ = some (.slice (some ⟨g, 0, none⟩) L.length cap) := fun W2 hd => hd.cell q2.cell
  have D0 := Lib.hid d0
  have D1 := Lib.hid d1
  have D2 := Lib.hid d2
  have e2 : w.cell? ⟨q, 0, none⟩ = some (.slice (some ⟨g, 0, none⟩) L.length cap) := hq.cell
  have hql := hq.lt
  have hqn : q ≠ w.heap.size := by omega
  have hqn2 : q ≠ w.heap.size + 1 := by omega
  subst hW
  clear hq hr hne hw HB q2 b1 b2 b3 d0 d1 d2 hJ hN
  obtain ⟨n, hn⟩ : ∃ n, L.length = n := ⟨_, rfl⟩
  rw [hn] at hb HS hJl hlen D2 e2
  clear hn
  have hmf := make_func
  go_enter Tryz.func85, Tryz.ntmps85
  go_wp2_with fail
  refine HS.out.mono ?_
  rintro e w2 ⟨rfl, dr⟩
  have f0 := D0.out w2 dr
  have f1 := D1.out w2 dr
  have f2 := D2.out w2 dr
  have HB2 := Lib.hid (up_trans HBB.out dr.below)
  clear HS D0 D1 D2 dr e2
  by_cases hx : x < 0
  · have e : b = false := by rw [hb]; simp; omega
    have hd : decide (x < 0) = true := by simpa using hx
    subst e
    clear hb
    go_wp2
    go_ret
    exact ⟨rfl, HB2.out⟩
  · have hd : decide (x < 0) = false := by simpa using hx
    by_cases hj : J < n
    · have e : b = true := by rw [hb]; simp; omega
      have hdj : ((J : Int) == (n : Int)) = false := by simp; omega
      subst e
      clear hb
      go_wp2
      go_ret
      exact ⟨rfl, HB2.out⟩
    · have e : b = false := by rw [hb]; simp; omega
      have hdj : ((J : Int) == (n : Int)) = true := by simp; omega
      subst e
      clear hb
      go_wp2
      go_ret
      exact ⟨rfl, HB2.out⟩
theorem index_yes {w : World} {q g k : Nat} {N x : Int} {L : List Rn} (h : Sp w q g L) (hw : WF N L) (hN : N ≤ 4096) (hk : k < L.length) (h1 : (el L k).p ≤ x) (h2 : x < (el L k).p + (el L k).n) :
    Calls Tryz.prog 85 #[.pointer (some ⟨q, 0, none⟩), .int .i64 x] w fun e w' => e = .returned (.int .i64 (k : Int)) ∧ Below w.heap.size w w' := by
  have hb := hw.bds hN hk
  refine index_w h hw hN (J := k) ⟨by omega, fun j hj => ?_, fun j hj hl => ?_⟩ true (by symm; simp; omega)
  · have := chain_mono hw.chain hj hk; omega
  · rcases Nat.eq_or_lt_of_le hj with rfl | hj
    · exact h2
    · have := chain_mono hw.chain hj hl; have := hw.bds hN hl; omega
theorem index_no {w : World} {q g : Nat} {N x : Int} {L : List Rn} (h : Sp w q g L) (hw : WF N L) (hN : N ≤ 4096) (hx : x < 0 ∨ N ≤ x) :
    Calls Tryz.prog 85 #[.pointer (some ⟨q, 0, none⟩), .int .i64 x] w fun e w' => e = .returned (.int .i64 (-1)) ∧ Below w.heap.size w w' := by
  by_cases h0 : x < 0
  · exact index_w h hw hN (J := 0) ⟨by omega, fun j hj => by omega, fun j _ hl => by have := hw.bds hN hl; omega⟩ false (by symm; simp; omega)
  · exact index_w h hw hN (J := L.length) ⟨by omega, fun j hj => by have := chain_at hw.chain hj; omega, fun j _ hl => by omega⟩ false (by symm; simp)
theorem results_run {tmps : Array Value} {B : Nat} {a b c : Value} {z : Bool} {w : World} (ht : tmps.getD 4 undef = .pointer (some ⟨B, 0, none⟩)) (h5 : tmps.getD 5 undef = .bool z) (hg : Blk w B [a, b, c] 107) :
    (results Tryz.f54 tmps).run Tryz.prog w = .ok (.tuple #[.agg #[a, b, c], .bool z]) w := by
  have ht' : tmps[4]?.getD undef = .pointer (some ⟨B, 0, none⟩) := by simpa using ht
  have h5' : tmps[5]?.getD undef = .bool z := by simpa using h5
  obtain ⟨i, hi, _, hs, _⟩ := info_parts run_info
  simp [results, ht', h5', asAddr, run_loadVar_row w B 107 107 #[a, b, c] (0, 0) _ hg Tryz.underlying107 rfl (by rw [hi]; simp [hs])]
/-- Find. -/
theorem find_yes {w : World} {q g k : Nat} {N x : Int} {L : List Rn} (h : Sp w q g L) (hw : WF N L) (hN : N ≤ 4096) (hk : k < L.length) (h1 : (el L k).p ≤ x) (h2 : x < (el L k).p + (el L k).n) :
    Calls Tryz.prog 54 #[.pointer (some ⟨q, 0, none⟩), .int .i64 x] w fun e w' => e = .returned (.tuple #[.agg #[.int .i64 (el L k).p, .int .i64 (el L k).n, .bool (el L k).t], .bool true]) ∧ Below w.heap.size w w' := by
  have hA := up_alloc (Below.refl _ w) (.cells #[.int .i64 0, .int .i64 0, .bool false] 107)
  have HI := Lib.hid (index_yes (h.below hA) hw hN hk h1 h2)
  have HA := Lib.hid hA
  have HS := Lib.hid h
  have hb := hw.len
  have HK := Lib.hid hk
  obtain ⟨r, hr⟩ : ∃ r, el L k = r := ⟨_, rfl⟩
  have HR := Lib.hid hr
  rw [hr]
  obtain ⟨p, m, t⟩ := r
  dsimp only
  clear hr
  have hb0 : (((k : Nat) : Int) == -1) = false := by simp
  clear h hA hw h1 h2
  go_enter Tryz.func54, Tryz.ntmps54
  go_wp2_with fail
  refine HI.out.mono ?_
  rintro e w1 ⟨rfl, b1⟩
  obtain ⟨z0, z1, z2, b2⟩ := box3 b1
  obtain ⟨cap, hq, hr, hne⟩ := HS.out.below b2
  have c0 : w1.cell? ⟨q, 0, none⟩ = some (.slice (some ⟨g, 0, none⟩) L.length cap) := hq.cell
  obtain ⟨r0, r1, r2⟩ := hr.cells HK.out
  rw [HR.out] at r0 r1 r2
  dsimp only at r0 r1 r2
  have hz : Blk w1 w.heap.size [.int .i64 0, .int .i64 0, .bool false] 107 := by
    have hB : Blk (w.alloc (.cells #[.int .i64 0, .int .i64 0, .bool false] 107)) w.heap.size [.int .i64 0, .int .i64 0, .bool false] 107 := heap_alloc_new w _
    exact hB.of (b1.block _ hB.lt)
  have g0 := hz.frozen 0
  have g1 := hz.frozen 1
  have g2 := hz.frozen 2
  have hk' : (k : Int) < (L.length : Int) := by omega
  have HZ := Lib.hid hz
  have HB2 := Lib.hid b2
  clear hz hq hr hne b1 b2 HI
  go_wp2
  refine bodyPost_ret (results_run rfl rfl (((HZ.out.set _).set _).set _)) rfl ?_
  exact ⟨rfl, ((HB2.out.setCell (p := ⟨w.heap.size, 0, none⟩) (Nat.le_refl _) _).setCell (p := ⟨w.heap.size, 1, none⟩) (Nat.le_refl _) _).setCell (p := ⟨w.heap.size, 2, none⟩) (Nat.le_refl _) _⟩
theorem find_no {w : World} {q g : Nat} {N x : Int} {L : List Rn} (h : Sp w q g L) (hw : WF N L) (hN : N ≤ 4096) (hx : x < 0 ∨ N ≤ x) :
    Calls Tryz.prog 54 #[.pointer (some ⟨q, 0, none⟩), .int .i64 x] w fun e w' => e = .returned (.tuple #[.agg #[.int .i64 0, .int .i64 0, .bool false], .bool false]) ∧ Below w.heap.size w w' := by
  have hA := up_alloc (Below.refl _ w) (.cells #[.int .i64 0, .int .i64 0, .bool false] 107)
  have HI := Lib.hid (index_no (h.below hA) hw hN hx)
  clear h hA hw hx
  go_enter Tryz.func54, Tryz.ntmps54
  go_wp2_with fail
  refine HI.out.mono ?_
  rintro e w1 ⟨rfl, b1⟩
  obtain ⟨z0, z1, z2, b2⟩ := box3 b1
  have hz : Blk w1 w.heap.size [.int .i64 0, .int .i64 0, .bool false] 107 := by
    have hB : Blk (w.alloc (.cells #[.int .i64 0, .int .i64 0, .bool false] 107)) w.heap.size [.int .i64 0, .int .i64 0, .bool false] 107 := heap_alloc_new w _
    exact hB.of (b1.block _ hB.lt)
  have g0 := hz.frozen 0
  have g1 := hz.frozen 1
  have g2 := hz.frozen 2
  have HZ := Lib.hid hz
  have HB2 := Lib.hid b2
  clear hz b1 b2 HI
  go_wp2
  refine bodyPost_ret (results_run rfl rfl (((HZ.out.set _).set _).set _)) rfl ?_
  exact ⟨rfl, ((HB2.out.setCell (p := ⟨w.heap.size, 0, none⟩) (Nat.le_refl _) _).setCell (p := ⟨w.heap.size, 1, none⟩) (Nat.le_refl _) _).setCell (p := ⟨w.heap.size, 2, none⟩) (Nat.le_refl _) _⟩
end Go.Proofs.YtjnknnakllbaaaaGreat.Sp
