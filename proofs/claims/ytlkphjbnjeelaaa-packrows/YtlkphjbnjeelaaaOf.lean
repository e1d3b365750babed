/-
  What the statements' of does: fields as the references have them.
-/
import Derived.Test.YtlkphjbnjeelaaaPack
import Derived.Deep.AppendLies
import Derived.Laws.OwnMore
import Derived.OwnWalk
namespace Go.Proofs.Ytlkphjbnjeelaaa
open Go.RowKit

/-- The cells of the first k fields. -/
def flat (l : List (Int × Int)) : Nat → List Value
  | 0 => []
  | k + 1 => flat l k ++ [.int .i64 (l.getD k (0, 0)).1, .int .i64 (l.getD k (0, 0)).2]
theorem flat_len (l : List (Int × Int)) (k : Nat) : (flat l k).length = k * 2 := by
  induction k with
  | zero => rfl
  | succ k ih => rw [flat, List.length_append, ih]; simp; omega
theorem flat_at (l : List (Int × Int)) (k i : Nat) (h : i < k) : (flat l k)[i * 2]? = some (.int .i64 (l.getD i (0, 0)).1) ∧ (flat l k)[i * 2 + 1]? = some (.int .i64 (l.getD i (0, 0)).2) := by
  induction k with
  | zero => omega
  | succ k ih =>
    rw [flat]
    by_cases hi : i = k
    · subst hi
      rw [List.getElem?_append_right (by rw [flat_len]; omega), List.getElem?_append_right (by rw [flat_len]; omega), flat_len]
      constructor <;> simp
    · rw [List.getElem?_append_left (by rw [flat_len]; omega), List.getElem?_append_left (by rw [flat_len]; omega)]
      exact ih (by omega)
theorem own_fields {w : World} {base g cap : Nat} {l : List (Int × Int)} (h : w.ownsRow base 26 2 (.slice (some ⟨g, 0, none⟩) l.length cap) l.length (flat l l.length)) : FAt w g 0 l := fun i hi => by
  have a := flat_at l l.length i hi
  exact ⟨by rw [Nat.zero_add, h.cellAt _ (by omega)]; exact a.1, by rw [Nat.zero_add, h.cellAt _ (by omega)]; exact a.2⟩

def OfPost (l : List (Int × Int)) (w : World) (e : Ending) (w' : World) : Prop :=
  ∃ g cap, e = .returned (.slice (some ⟨g, 0, none⟩) l.length cap) ∧ g < w'.heap.size ∧ FAt w' g 0 l ∧ Below w.heap.size w w'
theorem field_info : (Try.prog.info? 26).map (fun i => (i.zero, i.size, i.bytes)) = some (some (.agg #[.int .i64 0, .int .i64 0]), 2, 16) := by kernel_rfl

theorem of_none (A : Option Addr) (c : Nat) (w : World) : Calls Try.prog 21 #[.slice A 0 c] w (OfPost [] w) := by
  go_enter Try.func21, Try.ntmps21
  go_wp2
  go_loop [3, 4] (fun o i => o = .slice (some ⟨w.heap.size, 0, none⟩) 0 0 ∧ i = .int .i64 0) (fun _ _ => 0)
  case atStart => exact ⟨rfl, rfl⟩
  case round =>
    obtain ⟨rfl, rfl⟩ := hrel
    go_wp2
    go_ret
    exact ⟨w.heap.size, 0, rfl, by simp, fun i hi => by simp at hi, up_alloc (Below.refl _ _) _⟩
set_option maxRecDepth 100000 in
set_option maxHeartbeats 3200000 in
theorem of_some (b off : Nat) (l : List (Int × Int)) (c : Nat) (w : World) (hb : b < w.heap.size) (hf : FAt w b off l) (hl : l.length ≤ 70) :
    Calls Try.prog 21 #[.slice (some ⟨b, off, none⟩) l.length c] w (OfPost l w) := by
  obtain ⟨i0, hi0, hz0, hz1, hz2⟩ := info_parts field_info
  have HF := Lib.hid hf
  have HI := Lib.hid hi0
  have HZ0 := Lib.hid hz0
  have HZ1 := Lib.hid hz1
  have HZ2 := Lib.hid hz2
  have hst : (w.alloc (.cells #[] 26)).ownsRow w.heap.size 26 2 (.slice (some ⟨w.heap.size, 0, none⟩) 0 0) 0 (flat l 0) :=
    ⟨rfl, .inr ⟨w.heap.size, 0, #[], rfl, Nat.le_refl _, heap_alloc_new w _, Nat.le_refl _, by decide, rfl, rfl⟩⟩
  have HS := Lib.hid hst
  clear hf hi0 hz0 hz1 hz2 hst
  go_enter Try.func21, Try.ntmps21
  go_wp2
  go_loopw [3, 4] (fun o i wr => ∃ k g cap : Nat, k ≤ l.length ∧ i = .int .i64 k ∧ o = .slice (some ⟨g, 0, none⟩) k cap ∧ wr.ownsRow w.heap.size 26 2 (.slice (some ⟨g, 0, none⟩) k cap) k (flat l k) ∧ Below w.heap.size w wr) (fun _ i _ => l.length - (intOf i).toNat)
  case atStart => exact ⟨0, w.heap.size, 0, by omega, rfl, rfl, HS.out, up_alloc (Below.refl _ _) _⟩
  case round =>
    obtain ⟨k, g, cap, hk, rfl, rfl, hown, hbel⟩ := hrel
    have HO := Lib.hid hown
    have hg := hown.lt g rfl
    clear hown HS
    obtain ⟨hg1, hg2⟩ := hg
    by_cases hlt : k < l.length
    · obtain ⟨q1, q2⟩ := (HF.out.below hb hbel) k hlt
      have hsz := hbel.size
      have hb2 : b < wr.heap.size := by omega
      have hk0 : (0 : Int) ≤ (k : Int) := Int.natCast_nonneg _
      have hk1 : (k : Int) < (l.length : Int) := by omega
      have hne : (Value.slice (some ⟨g, 0, none⟩) k cap).ownBlock ≠ some b := by simp [Value.ownBlock]; omega
      have HNE := Lib.hid hne
      clear hne
      obtain ⟨s, hs⟩ : ∃ s, (l.getD k (0, 0)).1 = s := ⟨_, rfl⟩
      obtain ⟨n, hn⟩ : ∃ n, (l.getD k (0, 0)).2 = n := ⟨_, rfl⟩
      rw [hs] at q1
      rw [hn] at q2
      have HP : Hid (l.getD k (0, 0) = (s, n)) := by rw [← hs, ← hn]; rfl
      clear hs hn
      go_wp2_with fail
      go_region_held3 (fun w' => w'.cell? ⟨b, off + k * 2, none⟩ = some (.int .i64 s) ∧ w'.cell? ⟨b, off + k * 2 + 1, none⟩ = some (.int .i64 n))
        (first
          | (go_split_ands
             refine ⟨?_, ?_⟩
             · (rw [hgrow.cell_far _ (by simp; omega) (Ne.symm HNE.out)]; assumption)
             · (rw [hgrow.cell_far _ (by simp; omega) (Ne.symm HNE.out)]; assumption))
          | (simp [go_sem, q1, q2, hb2]))
        ((refine step_append_lies _ (by rfl) _ _ _ (by rfl) w.heap.size 26 i0 _ 2 16 Try.underlying45 HI.out HZ0.out HZ1.out HZ2.out rfl (by omega) (.slice (some ⟨g, 0, none⟩) k cap) k (flat l k) (by rfl) ((HO.out.alloc _).drew)
            ⟨wr.heap.size, 0, none⟩ 1 1 [.int .i64 s, .int .i64 n] (by rfl) (by rfl) (World.news_of_block (cs := #[.int .i64 s, .int .i64 n]) (t := 26) (fr := (0, 0)) (heap_alloc_new wr _)) (by simp [Value.oneCell'])
            (by omega) (by simp only [maxLen]; omega) (by omega) (by simp; omega) (wr.heap.size + 1) (by simp) ?_; intro gg cap' w1 hown1 hgrow hat hlt1))
      go_wp2
      go_roundw
      case rel => exact ⟨k + 1, gg, cap', by omega, by go_num, rfl, by rw [flat, HP.out]; exact hown1, (up_alloc hbel _).drew.grown hgrow (by simp; omega) (fun j hj => by simp [Value.ownBlock] at hj; omega)⟩
      case measure => simp [intOf]; omega
    · obtain rfl : k = l.length := by omega
      go_wp2
      go_ret
      exact ⟨g, cap, rfl, hg2, own_fields HO.out, hbel⟩
theorem of_any (A : Option Addr) (l : List (Int × Int)) (c : Nat) (w : World) (hf : FS w.heap.size w A l) (hl : l.length ≤ 70) :
    Calls Try.prog 21 #[.slice A l.length c] w (OfPost l w) := by
  rcases Nat.eq_zero_or_pos l.length with h0 | hp
  · rw [List.eq_nil_of_length_eq_zero h0]; exact of_none A c w
  · obtain ⟨b, off, rfl, hb, hf⟩ := hf hp
    exact of_some b off l c w hb hf hl

end Go.Proofs.Ytlkphjbnjeelaaa
