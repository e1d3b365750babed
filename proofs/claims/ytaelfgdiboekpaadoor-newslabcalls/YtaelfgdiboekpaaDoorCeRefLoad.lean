/-
  What the references' Load and Bytes do: contracts that the claimed proofs use.
-/
import Derived.Test.YtaelfgdiboekpaaDoorCeSame
namespace Go.Proofs.YtaelfgdiboekpaaDoor.Ce
set_option maxRecDepth 100000
open Go.RowKit

theorem rload_no (A : Option Addr) (L c : Nat) (s n : Int) (w : World) (hL : L ≤ 1048576) (hs : s ≤ 9223372036854775807) (hno : (widthB n && hasB L s n) = false) :
    Calls Tryd.prog 106 #[.slice A L c, .int .i64 s, .int .i64 n] w fun e w' => e = .returned (.tuple #[.int .u64 0, .int .i64 11]) ∧ w = w' := by
  cases hw : widthB n
  · go_enter Tryd.func106, Tryd.ntmps106
    go_wp2_with (go_at_call 109; refine (width_any _ _).mono ?_; rw [hw]; rintro e w' ⟨rfl, rfl⟩)
    go_ret2
    exact ⟨rfl, rfl⟩
  · rw [hw, Bool.true_and] at hno
    go_enter Tryd.func106, Tryd.ntmps106
    go_wp2_with (first | (go_at_call 109; refine (width_any _ _).mono ?_; rw [hw]; rintro e w' ⟨rfl, rfl⟩) | (go_at_call 105; refine (in_any L _ _ _ hL hs).mono ?_; rw [hno]; rintro e w' ⟨rfl, rfl⟩))
    go_ret2
    exact ⟨rfl, rfl⟩
theorem hd_raw (f : Nat → BitVec 8) (n k : Nat) (x : BitVec 8) (h : f (n - (k + 1)) = x) : IntKind.u64.wrap (IntKind.u64.wrap (u (hd f n k) * 256) + IntKind.u64.wrap (y x)) = u (hd f n (k + 1)) := by
  have e : IntKind.u64.wrap (y x) = y x := by rw [IntKind.wrap_u64]; have := y_nonneg x; have := y_lt x; omega
  have e2 : (256 : Int) = u 256#64 := rfl
  rw [e, u_y, e2, mul_u, add_u, hd, h]
theorem rload_yes (b o : Nat) (bs : List (BitVec 8)) (c s n : Nat) (w : World) (hb : ∀ j, j < bs.length → w.cell? ⟨b, o + j, none⟩ = some (.int .u8 (y (bs.getD j 0#8)))) (hL : bs.length ≤ 1048576) (hw : widthB n = true) (hh : s + n ≤ bs.length) :
    Calls Tryd.prog 106 #[.slice (some ⟨b, o, none⟩) bs.length c, .int .i64 (s : Int), .int .i64 (n : Int)] w fun e w' => e = .returned (.tuple #[.int .u64 (u (ldW bs s n)), .int .i64 0]) ∧ w = w' := by
  have hhb : hasB bs.length s n = true := hasB_iff.2 ⟨by omega, by omega, by omega⟩
  have hn : 1 ≤ n ∧ n ≤ 8 := by have := widthB_iff.1 hw; omega
  obtain ⟨n1, n8⟩ := hn
  have HB := Lib.hid hb
  obtain ⟨L, hl⟩ : ∃ L, bs.length = L := ⟨_, rfl⟩
  have HL := Lib.hid hl
  rw [hl] at hL hhb hh ⊢
  rw [ldW, ← hd_ld _ n n8]
  obtain ⟨f, hf⟩ : ∃ f, (fun i => bs.getD (s + i) 0#8) = f := ⟨_, rfl⟩
  have HF : Hid (∀ i, bs.getD (s + i) 0#8 = f i) := fun i => by rw [← hf]
  rw [hf]
  clear hl hb hf
  go_enter Tryd.func106, Tryd.ntmps106
  go_wp2_with (first | (go_at_call 109; refine (width_any _ _).mono ?_; rw [hw]; rintro e w' ⟨rfl, rfl⟩) | (go_at_call 105; refine (in_any L _ _ _ hL (by omega)).mono ?_; rw [hhb]; rintro e w' ⟨rfl, rfl⟩))
  go_loop [8, 9] (fun v i => ∃ k : Nat, k ≤ n ∧ i = .int .i64 ((n : Int) - (k : Int) - 1) ∧ v = .int .u64 (u (hd f n k))) (fun _ i => ((intOf i) + 1).toNat)
  case atStart => exact ⟨0, by omega, by go_num, rfl⟩
  case round =>
    obtain ⟨k, hk, rfl, rfl⟩ := hrel
    by_cases hlt : k < n
    · obtain ⟨j, hj⟩ : ∃ j : Nat, n = j + k + 1 := ⟨n - k - 1, by omega⟩
      have ej : (n : Int) - (k : Int) - 1 = (j : Int) := by omega
      rw [ej]
      have q1 := HB.out (s + j) (by have := HL.out; omega)
      rw [HF.out j] at q1
      obtain ⟨x, hx⟩ : ∃ x, f j = x := ⟨_, rfl⟩
      rw [hx] at q1
      have HX := Lib.hid hx
      have HJ := Lib.hid hj
      have hjn : j + k + 1 ≤ n := by omega
      have hlj : s + j < L := by omega
      clear hx hj ej
      go_wp2
      go_round
      case rel =>
        refine ⟨k + 1, by omega, ?_, ?_⟩
        · have := HJ.out; congr 1; omega
        · rw [← hd_raw f n k x (by have := HJ.out; rw [show n - (k + 1) = j by omega]; exact HX.out)]
      case measure => simp [intOf]
    · obtain rfl : k = n := by omega
      go_wp2
      go_ret2
      exact ⟨rfl, rfl⟩

/-! ### Bytes that are appended -/
theorem own_bytes {w : World} {base g cap n : Nat} {xs : List (BitVec 8)} (h : w.ownsRow base 5 1 (.slice (some ⟨g, 0, none⟩) n cap) n (row xs)) (hn : xs.length = n) : BA w.heap.size w (some ⟨g, 0, none⟩) xs := fun _ =>
  ⟨g, 0, rfl, own_lt h, fun j hj => by rw [Nat.zero_add, h.cellAt j (by omega)]; exact row_get hj⟩
theorem own_cap {w : World} {base g cap n : Nat} {e : TypeId} {size : Nat} {xs : List Value} (h : w.ownsRow base e size (.slice (some ⟨g, 0, none⟩) n cap) n xs) : n ≤ cap := by
  rcases h.2 with ⟨h', _⟩ | ⟨g', cap', cur, h', _, _, hc, _⟩
  · simp at h'
  · simp only [Value.slice.injEq, Option.some.injEq, Addr.mk.injEq, and_true, true_and] at h'
    obtain ⟨_, rfl⟩ := h'
    exact hc
theorem own_empty (w : World) : (w.alloc (.cells #[] 5)).ownsRow w.heap.size 5 1 (.slice (some ⟨w.heap.size, 0, none⟩) 0 0) 0 (row []) :=
  ⟨rfl, .inr ⟨w.heap.size, 0, #[], rfl, Nat.le_refl _, heap_alloc_new w _, Nat.le_refl _, by decide, rfl, rfl⟩⟩
theorem append_bytes {W : World} {ops : Array Oper} {rest : List Oper} {o : Oper} {a : Act} {Q : Exit → Act → World → Prop} (hgd : o.guard = none) (s x : Operand)
    (ho : o.op = .call { callee := .builtin .append, args := #[s, x], argTypes := #[45, 45] }) (base g cap n m c N : Nat) (xs cs : List (BitVec 8)) (sp : Option Addr)
    (hs : a.eval s = .slice (some ⟨g, 0, none⟩) n cap) (hown : W.ownsRow base 5 1 (.slice (some ⟨g, 0, none⟩) n cap) n (row xs))
    (hx : a.eval x = .slice sp m c) (hm : cs.length = m) (hsp : sp = none → m = 0 ∧ c = 0) (hba : BA N W sp cs) (hl : n + m ≤ 4194304) (hbase : base ≤ W.heap.size)
    (h : ∀ g' cap' w', Hid (w'.ownsRow base 5 1 (.slice (some ⟨g', 0, none⟩) (n + m) cap') (n + m) (row (xs ++ cs))) → Hid (Below base W w') →
      wpList Tryd.prog ops Q rest (a.put o.dst (.slice (some ⟨g', 0, none⟩) (n + m) cap')) w') : wpList Tryd.prog ops Q (o :: rest) a W := by
  obtain ⟨i0, hi0, hz0, hz1, hz2⟩ := info_parts byte_info
  cases sp with
  | none =>
    obtain ⟨rfl, rfl⟩ := hsp rfl
    obtain rfl : cs = [] := List.eq_nil_of_length_eq_zero hm
    refine wpList_append_own_none hgd s x 45 ho base 5 i0 1 Tryd.underlying45 hi0 _ n (row xs) hs hown hx ?_
    exact h g cap W (by show World.ownsRow _ _ _ _ _ _ _; rw [List.append_nil]; exact hown) (Below.refl _ _)
  | some ad =>
    refine wpList_append_own W hgd s x 45 ho base 5 i0 _ 1 1 Tryd.underlying45 hi0 hz0 hz1 hz2 rfl (by omega) _ n (row xs) hs hown ad m c (row cs) hx (by rw [row_length, hm, Nat.mul_one]) ?_ (row_one cs) (by simp only [maxLen]; omega) (by omega) hbase ?_
    · intro j v hv
      have hj : j < cs.length := by
        rcases Nat.lt_or_ge j cs.length with hj | hj
        · exact hj
        · rw [List.getElem?_eq_none (by rw [row_length]; exact hj)] at hv; cases hv
      rw [row_get hj] at hv
      cases hv
      obtain ⟨b, o', e, _, hc⟩ := hba (by omega)
      cases e
      have e : (⟨b, o', none⟩ : Addr).add j = ⟨b, o' + j, none⟩ := by unfold Addr.add; split <;> simp_all
      rw [e]; exact hc j hj
    · intro v' w' h2 h3 h4
      have h2' := h2
      rcases h2.2 with ⟨rfl, _⟩ | ⟨g', cap', cur, rfl, _⟩
      · have := (h4.1 rfl).1; simp at this
      · refine h g' cap' w' ?_ ((Below.refl _ W).grown h3 hbase (own_base hown))
        show World.ownsRow _ _ _ _ _ _ _
        have e : row (xs ++ cs) = row xs ++ row cs := by simp [row]
        rw [e]; exact h2'

/-- What is left behind a call that answers a list of bytes of its own, at whatever address. -/
def Gave2 (cs : List (BitVec 8)) (w : World) (e : Ending) (w' : World) : Prop :=
  ∃ g cap, e = .returned (.slice (some ⟨g, 0, none⟩) cs.length cap) ∧ cs.length ≤ cap ∧ w.heap.size ≤ g ∧ BA w'.heap.size w' (some ⟨g, 0, none⟩) cs ∧ Below w.heap.size w w'
theorem row_single (w : World) (x : BitVec 8) (n : Nat) (h : w.heap.size = n) : BA (n + 1) (w.alloc (.cells #[.int .u8 (y x)] 5)) (some ⟨n, 0, none⟩) [x] := by
  subst h
  exact (BA.row (show Row (w.alloc (.cells #[.int .u8 (y x)] 5)) w.heap.size [x] from heap_alloc_new w _)).more (by simp)
theorem bytes_any (v : BitVec 64) (n : Nat) (w : World) (hn : n ≤ 8) : Calls Tryd.prog 93 #[.int .u64 (u v), .int .i64 (n : Int)] w (Gave2 (bytesOf v n) w) := by
  have hst := own_empty w
  have HS := Lib.hid hst
  clear hst
  go_enter Tryd.func93, Tryd.ntmps93
  go_wp2
  go_loopw [5, 6] (fun o i wr => ∃ k g cap : Nat, k ≤ n ∧ i = .int .i64 k ∧ o = .slice (some ⟨g, 0, none⟩) k cap ∧ wr.ownsRow w.heap.size 5 1 (.slice (some ⟨g, 0, none⟩) k cap) k (row (bytesOf v k)) ∧ Below w.heap.size w wr) (fun _ i _ => n - (intOf i).toNat)
  case atStart => exact ⟨0, w.heap.size, 0, by omega, rfl, rfl, HS.out, up_alloc (Below.refl _ _) _⟩
  case round =>
    obtain ⟨k, g, cap, hk, rfl, rfl, hown, hbel⟩ := hrel
    have HO := Lib.hid hown
    have HB := Lib.hid hbel
    have hsz := hbel.size
    clear hown hbel HS
    by_cases hlt : k < n
    · have hraw := by8_raw v k
      go_wp2_with (at_builtin; refine append_bytes (by rfl) _ _ (by rfl) w.heap.size g cap k 1 1 (wr.heap.size + 1) (bytesOf v k) [by8 v k] (some ⟨wr.heap.size, 0, none⟩) (by rfl) (HO.out.alloc _) (by rfl) rfl (by simp) (row_single wr _ _ rfl) (by omega) (by simp; omega) ?_; intro g' cap' w' HO2 HB2)
      go_roundw
      case rel => exact ⟨k + 1, g', cap', by omega, by go_num, rfl, by rw [bytesOf_succ]; exact HO2.out, (up_alloc HB.out _).trans HB2.out⟩
      case measure => simp [intOf]; omega
    · obtain rfl : k = n := by omega
      have hgb : w.heap.size ≤ g := own_base HO.out g rfl
      go_wp2
      go_ret
      exact ⟨g, cap, by rw [bytesOf_length]; rfl, by rw [bytesOf_length]; exact own_cap HO.out, hgb, own_bytes HO.out (bytesOf_length v k), HB.out⟩

end Go.Proofs.YtaelfgdiboekpaaDoor.Ce
