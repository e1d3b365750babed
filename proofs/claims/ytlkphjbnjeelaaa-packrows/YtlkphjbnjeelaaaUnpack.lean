/-
  What pack.Unpack does: contracts that the claimed proofs use.
-/
import Derived.Test.YtlkphjbnjeelaaaPack
import Derived.Deep.OwnRows
import Derived.Laws.MakeOwn
namespace Go.Proofs.Ytlkphjbnjeelaaa
open Go.RowKit

/-- A field's value in a word, by the field's place. -/
def getL (x : BitVec 64) (l : List (Int × Int)) (i : Nat) : Value := .int .u64 (u (getW x (l.getD i (0, 0)).1.toNat (l.getD i (0, 0)).2.toNat))
def UnpackPost (x : BitVec 64) (l : List (Int × Int)) (w : World) (e : Ending) (w' : World) : Prop :=
  ∃ g, e = .returned (.tuple #[.slice (some ⟨g, 0, none⟩) l.length l.length, .bool true]) ∧ w.heap.size ≤ g ∧ w'.rowIs g 22 l.length (getL x l) ∧ Below w.heap.size w w'

theorem unpack_no (x : BitVec 64) (A : Option Addr) (l : List (Int × Int)) (c : Nat) (w : World) (hf : FS w.heap.size w A l) (hl : l.length ≤ 70) (ha : apartGo 0#64 l = false) :
    Calls Try.prog 24 #[.int .u64 (u x), .slice A l.length c] w fun e w' => e = .returned (.tuple #[.slice none 0 0, .bool false]) ∧ Below w.heap.size w w' := by
  have HF := Lib.hid hf
  clear hf
  go_enter Try.func24, Try.ntmps24
  go_wp2_with (go_at_call 25; refine (apart_any A l c _ HF.out hl).mono ?_; rintro e w1 ⟨rfl, hb1⟩)
  go_ret2
  exact ⟨rfl, hb1⟩
theorem word_info : (Try.prog.info? 22).map (fun i => (i.zero, i.size, i.bytes)) = some (some (.int .u64 0), 1, 8) := by kernel_rfl
theorem make_words (n : Nat) (hn : n ≤ 70) (W : World) :
    (Instr.makeSlice 43 (.int .i64 (n : Int)) (.int .i64 (n : Int))).run Try.prog W = .ok (.slice (some ⟨W.heap.size, 0, none⟩) n n) (W.alloc (.cells (madeCells #[.int .u64 0] n) 22)) := by
  obtain ⟨i, hi, hp⟩ := Option.map_eq_some_iff.1 word_info
  simp only [Prod.mk.injEq] at hp
  obtain ⟨hz, hs, hb⟩ := hp
  have := run_make (P := Try.prog) W 43 22 i (.int .u64 0) Try.underlying43 hi hz .i64 .i64 n n (by omega) (by omega) (by rw [hb]; omega) (by omega)
  rw [hs] at this
  simpa [Value.cells] using this
theorem unpack_nil (x : BitVec 64) (A : Option Addr) (c : Nat) (w : World) :
    Calls Try.prog 24 #[.int .u64 (u x), .slice A 0 c] w (UnpackPost x [] w) := by
  have hmk : ∀ W : World, (Instr.makeSlice 43 (.int .i64 0) (.int .i64 0)).run Try.prog W = .ok (.slice (some ⟨W.heap.size, 0, none⟩) 0 0) (W.alloc (.cells (madeCells #[.int .u64 0] 0) 22)) := make_words 0 (by omega)
  go_enter Try.func24, Try.ntmps24
  go_wp2_with (go_at_call 25; refine (apart_none A c _).mono ?_; rintro e w1 ⟨rfl, hb1⟩)
  go_loop [17] (fun i => i = .int .i64 0) (fun _ => 0)
  case atStart => rfl
  case round =>
    obtain rfl := hrel
    go_wp2
    go_ret2
    exact ⟨w1.heap.size, rfl, hb1.size, (World.rowIs_made w1 (.int .u64 0) 0 22).congr (fun i hi => by omega), up_alloc hb1 _⟩
def rowTo (x : BitVec 64) (l : List (Int × Int)) (k i : Nat) : Value := if i < k then getL x l i else .int .u64 0
theorem rowTo_step (x : BitVec 64) (l : List (Int × Int)) (k i : Nat) (s n : Int) (hp : l.getD k (0, 0) = (s, n)) :
    (if i = k then Value.int .u64 (u (getW x s.toNat n.toNat)) else rowTo x l k i) = rowTo x l (k + 1) i := by
  unfold rowTo
  by_cases h : i = k
  · subst h; rw [if_pos rfl, if_pos (by omega), getL, hp]
  · rw [if_neg h]
    by_cases h2 : i < k
    · rw [if_pos h2, if_pos (by omega)]
    · rw [if_neg h2, if_neg (by omega)]
set_option maxHeartbeats 1000000 in
theorem unpack_some (x : BitVec 64) (b off : Nat) (l : List (Int × Int)) (c : Nat) (w : World) (hb : b < w.heap.size) (hf : FAt w b off l) (hl : l.length ≤ 70) (ha : apartGo 0#64 l = true) :
    Calls Try.prog 24 #[.int .u64 (u x), .slice (some ⟨b, off, none⟩) l.length c] w (UnpackPost x l w) := by
  have hmk := make_words l.length hl
  have HF := Lib.hid hf
  have HA := Lib.hid ha
  clear hf
  go_enter Try.func24, Try.ntmps24
  go_wp2_with (go_at_call 25; refine (apart_some b off l c _ hb HF.out hl).mono ?_; rintro e w1 ⟨rfl, hb1⟩)
  clear hmk
  have hs1 := hb1.size
  have hst : (w1.alloc (.cells (madeCells #[.int .u64 0] l.length) 22)).rowIs w1.heap.size 22 l.length (rowTo x l 0) := (World.rowIs_made w1 (.int .u64 0) l.length 22).congr (fun i _ => by unfold rowTo; rw [if_neg (by omega)])
  have HST := Lib.hid hst
  clear hst
  go_loopw [17] (fun i wr => ∃ k : Nat, k ≤ l.length ∧ i = .int .i64 k ∧ wr.rowIs w1.heap.size 22 l.length (rowTo x l k) ∧ Below w.heap.size w wr) (fun i _ => l.length - (intOf i).toNat)
  case atStart => exact ⟨0, by omega, rfl, HST.out, up_alloc hb1 _⟩
  case round =>
    obtain ⟨k, hk, rfl, hrow, hbel⟩ := hrel
    have HR := Lib.hid hrow
    clear hrow HST
    by_cases hlt : k < l.length
    · obtain ⟨q1, q2⟩ := (HF.out.below hb hbel) k hlt
      have hsz := hbel.size
      have hb2 : b < wr.heap.size := by omega
      have hg : w1.heap.size < wr.heap.size := HR.out.lt
      have hrt : fr (l.getD k (0, 0)) = true := (apart_all l _ HA.out _ (by rw [List.getD_eq_getElem?_getD, List.getElem?_eq_getElem hlt]; exact List.getElem_mem hlt)).1
      obtain ⟨s, hs⟩ : ∃ s, (l.getD k (0, 0)).1 = s := ⟨_, rfl⟩
      obtain ⟨n, hn⟩ : ∃ n, (l.getD k (0, 0)).2 = n := ⟨_, rfl⟩
      rw [hs] at q1
      rw [hn] at q2
      have HP : Hid (l.getD k (0, 0) = (s, n)) := by rw [← hs, ← hn]; rfl
      rw [HP.out] at hrt
      clear hs hn
      go_wp2_with (go_at_call 8; refine (get_yes _ _ _ _ hrt).mono ?_; rintro e w2 ⟨rfl, hb4⟩; have hrow2 := (HR.out.alloc _).of_block (hb4.block _ (by simp; omega)); have hc2 := hrow2.cell hlt; have hf2 := hrow2.frozen k; have HR2 := Lib.hid hrow2; clear hrow2)
      go_roundw
      case rel => exact ⟨k + 1, by omega, by go_num, (HR2.out.set k _).congr (fun i _ => rowTo_step x l k i s n HP.out), ((up_alloc hbel _).trans (hb4.mono (by simp; omega))).setCell hs1 _⟩
      case measure => simp [intOf]; omega
    · obtain rfl : k = l.length := by omega
      go_wp2
      go_ret2
      exact ⟨w1.heap.size, rfl, hs1, HR.out.congr (fun i hi => by unfold rowTo; rw [if_pos hi]), hbel⟩
theorem unpack_yes (x : BitVec 64) (A : Option Addr) (l : List (Int × Int)) (c : Nat) (w : World) (hf : FS w.heap.size w A l) (hl : l.length ≤ 70) (ha : apartGo 0#64 l = true) :
    Calls Try.prog 24 #[.int .u64 (u x), .slice A l.length c] w (UnpackPost x l w) := by
  rcases Nat.eq_zero_or_pos l.length with h0 | hp
  · rw [List.eq_nil_of_length_eq_zero h0]; exact unpack_nil x A c w
  · obtain ⟨b, off, rfl, hb, hf⟩ := hf hp
    exact unpack_some x b off l c w hb hf hl ha

end Go.Proofs.Ytlkphjbnjeelaaa
