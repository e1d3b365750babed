/-
  How leaves without an entry are let go: contracts that the claimed proofs use.
-/
import Derived.Test.YtjnknnakllbaaaaGreatRaWrite
namespace Go.Proofs.YtjnknnakllbaaaaGreat.Ra
set_option maxRecDepth 100000
open Go.RowKit

theorem u64_info : ∃ i, Tryz.prog.info? 39 = some i := by
  have : (Tryz.prog.info? 39).isSome = true := by kernel_rfl
  exact Option.isSome_iff_exists.1 this
theorem items_run (f : Ws) (i : Nat) (w : World) : ∀ is : List Nat, (∀ j ∈ is, j < 64) →
    (Op.eqItems 9999 39 1 (lw f i).toArray (lw (fun _ => 0) 0).toArray is).run Tryz.prog w = .ok (is.all fun j => f (64 * i + j) == 0) w
  | [], _ => rfl
  | j :: is, h => by
    have hp : Tryz.prog.plainKey 39 = true := by kernel_rfl
    have hj := h j (List.mem_cons_self ..)
    have p1 : (part 39 (lw f i).toArray j).run Tryz.prog w = .ok (.int .u64 (f (64 * i + j))) w := run_part_plain w hp (by rw [List.getElem?_toArray]; exact lw_at f i hj)
    have p2 : (part 39 (lw (fun _ => 0) 0).toArray j).run Tryz.prog w = .ok (.int .u64 0) w := run_part_plain w hp (by rw [List.getElem?_toArray]; exact lw_at _ 0 hj)
    have hq := run_equalIn_int w 9998 39 .u64 .u64 (f (64 * i + j)) 0 Tryz.underlying39
    have ih := items_run f i w is (fun k hk => h k (List.mem_cons_of_mem _ hk))
    simp only [Op.eqItems, Nat.mul_one, Sem.run_bind, p1, p2, hq, Result.andThen_ok, List.all_cons]
    cases hb : (f (64 * i + j) == 0)
    · rfl
    · simp only [Bool.not_true, Bool.false_eq_true, if_false, Bool.true_and]
      exact ih
theorem lw_eql (f : Ws) (i : Nat) (w : World) : (Op.equalIn 10000 146 (.agg (lw f i).toArray) (.agg (lw (fun _ => 0) 0).toArray)).run Tryz.prog w = .ok (!lfB f i) w := by
  obtain ⟨inf, hi⟩ := u64_info
  have hc : Tryz.prog.cellsOf 39 = 1 := by kernel_rfl
  rw [show (10000 : Nat) = 9999 + 1 from rfl, run_equalIn_array w 9999 _ _ Tryz.underlying146 hi, hc, items_run f i w _ (fun j hj => by simpa using hj)]
  have : ((List.range 64).all fun j => f (64 * i + j) == 0) = !lfB f i := by
    unfold lfB
    rw [List.not_any_eq_all_not]
    congr 1
    funext j
    simp [bne]
  rw [this]
theorem lw_info (f : Ws) (i : Nat) : (Tryz.prog.info? 146).map (·.size) = some (lw f i).toArray.size := by rw [List.size_toArray, lw_len]; kernel_rfl

theorem lw_eql' (f : Ws) (i : Nat) (w : World) : (Op.equalIn 10000 146 (.agg (lw f i).toArray) (.agg #[.int .u64 0, .int .u64 0, .int .u64 0, .int .u64 0, .int .u64 0, .int .u64 0, .int .u64 0, .int .u64 0, .int .u64 0, .int .u64 0, .int .u64 0, .int .u64 0, .int .u64 0, .int .u64 0, .int .u64 0, .int .u64 0, .int .u64 0, .int .u64 0, .int .u64 0, .int .u64 0, .int .u64 0, .int .u64 0, .int .u64 0, .int .u64 0, .int .u64 0, .int .u64 0, .int .u64 0, .int .u64 0, .int .u64 0, .int .u64 0, .int .u64 0, .int .u64 0, .int .u64 0, .int .u64 0, .int .u64 0, .int .u64 0, .int .u64 0, .int .u64 0, .int .u64 0, .int .u64 0, .int .u64 0, .int .u64 0, .int .u64 0, .int .u64 0, .int .u64 0, .int .u64 0, .int .u64 0, .int .u64 0, .int .u64 0, .int .u64 0, .int .u64 0, .int .u64 0, .int .u64 0, .int .u64 0, .int .u64 0, .int .u64 0, .int .u64 0, .int .u64 0, .int .u64 0, .int .u64 0, .int .u64 0, .int .u64 0, .int .u64 0, .int .u64 0])).run Tryz.prog w = .ok (!lfB f i) w := lw_eql f i w
/-- What letting go does to the leaves from a to b. -/
structure Shed (a b : Nat) (g g' : Gs) (f : Ws) : Prop where
  far : ∀ i, i < 64 → ¬ (a ≤ i ∧ i < b) → g' i = g i
  near : ∀ i, i < 64 → a ≤ i → i < b → (g' i).isSome = lfB f i
section
variable {w : World} {q : Nat} {n t : Int} {g : Gs} {f : Ws}
theorem drop_any (p k : Nat) (h : Lay w q n t g f) (hpk : p + k ≤ 4096) (hk : 1 ≤ k) (hs : ∀ i, p / 64 ≤ i → i ≤ (p + k - 1) / 64 → (g i).isSome = true) :
    Calls Tryz.prog 105 #[.pointer (some ⟨q, 0, none⟩), .int .i64 p, .int .i64 k] w fun e w' => ∃ g', e = .returned (.tuple #[]) ∧ Lay w' q n t g' f ∧ Shed (p / 64) ((p + k - 1) / 64 + 1) g g' f ∧ Newer w.heap.size g g' ∧ Fr q g w w' := by
  have HL0 := Lib.hid h
  obtain ⟨A, hA⟩ : ∃ A, p / 64 = A := ⟨_, rfl⟩
  obtain ⟨B, hB⟩ : ∃ B, (p + k - 1) / 64 = B := ⟨_, rfl⟩
  rw [hA, hB]
  rw [hA, hB] at hs
  have HS := Lib.hid hs
  have e1 : (p : Int) / 64 = (A : Int) := by omega
  have e2 : ((p : Int) + (k : Int) - 1) / 64 = (B : Int) := by omega
  have ab : A ≤ B := by omega
  have b1 : B < 64 := by omega
  clear h hs hA hB
  go_enter Tryz.func105, Tryz.ntmps105
  go_wp2_with fail
  go_loopw [6] (fun a wr => ∃ (i : Nat) (g' : Gs), A ≤ i ∧ i ≤ B + 1 ∧ a = .int .i64 (i : Int) ∧ Lay wr q n t g' f ∧ Shed A i g g' f ∧ Newer w.heap.size g g' ∧ Fr q g w wr) (fun a _ => B + 1 - (intOf a).toNat)
  case atStart => exact ⟨A, g, by omega, by omega, rfl, HL0.out, ⟨fun _ _ _ => rfl, fun i _ h1 h2 => by omega⟩, Newer.refl _ _, Fr.refl _ _ _⟩
  case round =>
    obtain ⟨i, g', i0, i1, rfl, hl, hsh, hnw, hfr⟩ := hrel
    have HL := Lib.hid hl
    have HD := Lib.hid hsh
    have HN := Lib.hid hnw
    have HF := Lib.hid hfr
    clear hl hsh hnw hfr HL0
    by_cases hlt : i ≤ B
    · have d : decide ((i : Int) ≤ (B : Int)) = true := by simp; omega
      have hi64 : i < 64 := by omega
      have hgs : (g' i).isSome = true := by rw [HD.out.far i hi64 (by omega)]; exact HS.out i i0 hlt
      obtain ⟨b, hgi⟩ := Option.isSome_iff_exists.1 hgs
      have cp := HL.out.cp hi64
      rw [hgi, ptr_some] at cp
      have fz := HL.out.blk.frozen (2 + i)
      have HLF := Lib.hid (HL.out.leaf i b hi64 hgi)
      have hq := lw_eql' f i wr
      cases hlf : lfB f i with
      | false =>
        rw [hlf] at hq
        have HX := Lib.hid hlf
        have HGI := Lib.hid hgi
        clear hgs hgi hlf
        go_wp2_with (refine wpList_load_row rfl 146 (.tmp 24) rfl b rfl 146 (lw f i).toArray (0, 0) _ HLF.out Tryz.underlying146 rfl (lw_info f i) ?_)
        go_roundw
        case rel =>
          refine ⟨i + 1, upg g' i none, by omega, by omega, by go_num, HL.out.drop HX.out, ⟨fun j hj hn => ?_, fun j hj h1 h2 => ?_⟩, HN.out.trans (newer_drop w.heap.size i g') (Nat.le_refl _), HF.out.trans (Fr.ofq (g := g') (grown_set _ _ _ _)) HN.out⟩
          · unfold upg; rw [if_neg (by omega)]; exact HD.out.far j hj (by omega)
          · unfold upg
            by_cases e : j = i
            · rw [if_pos e, e, HX.out]; rfl
            · rw [if_neg e]; exact HD.out.near j hj h1 (by omega)
        case measure => simp [intOf]; omega
      | true =>
        rw [hlf] at hq
        have HX := Lib.hid hlf
        have HGS := Lib.hid hgs
        clear hgs hgi hlf
        go_wp2_with (refine wpList_load_row rfl 146 (.tmp 24) rfl b rfl 146 (lw f i).toArray (0, 0) _ HLF.out Tryz.underlying146 rfl (lw_info f i) ?_)
        go_roundw
        case rel =>
          refine ⟨i + 1, g', by omega, by omega, by go_num, HL.out, ⟨fun j hj hn => HD.out.far j hj (by omega), fun j hj h1 h2 => ?_⟩, HN.out, HF.out⟩
          by_cases e : j = i
          · rw [e, HX.out]; exact HGS.out
          · exact HD.out.near j hj h1 (by omega)
        case measure => simp [intOf]; omega
    · obtain rfl : i = B + 1 := by omega
      have d : decide (((B + 1 : Nat) : Int) ≤ (B : Int)) = false := by simp; omega
      go_wp2
      exact bodyPost_end (results_none rfl _ _ _) rfl ⟨g', rfl, HL.out, HD.out, HN.out, HF.out⟩
end
end Go.Proofs.YtjnknnakllbaaaaGreat.Ra
