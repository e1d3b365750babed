/-
  The walk of the statement on iterators and clones, where there are lists.
-/
import Derived.Test.YtjjilnklcjgndaaTail
import Derived.Maps.OwnIn
namespace Go.Proofs.Ytjjilnklcjgndaa
open Go.RowKit Go.Shelf

attribute [local go_sem] Oper.semAt_some

theorem func_nil (fn : Fn) (a b : Array Value) (W : World) : (binOp BinOp.eql 46 (.func fn a b) .nilFunc).run Try.prog W = .ok (.bool false) W := rfl
theorem box_more {w : World} {n : Int} {v2 : Value} {p : Pl} {g Br Bs : Nat} {pc : Pl} {L : Nat → List Nat} {gf : Nat} {xs : List Nat} {base : Nat} {pre : List Nat} {W : World} (h : Inv w n v2 p g Br Bs pc L gf xs base pre W) : W.cell? ⟨w.heap.size + 1, 0, none⟩ = some v2 := by
  obtain ⟨L', he⟩ := h.env; exact he.boxes.b.cell
theorem box_items {w : World} {n : Int} {v2 : Value} {p : Pl} {g Br Bs : Nat} {pc : Pl} {L : Nat → List Nat} {gf : Nat} {xs : List Nat} {base : Nat} {pre : List Nat} {W : World} (h : Inv w n v2 p g Br Bs pc L gf xs base pre W) : W.cell? ⟨w.heap.size, 0, none⟩ = some (.int .i64 n) := by
  obtain ⟨L', he⟩ := h.env; exact he.boxes.a.cell
/-- A number more is told: an append within a round. -/
theorem in_app {F : Fence} {nF : Nat} {V : World} {ops : Array Oper} {rest : List Oper} {o : Oper} {a : Act} {Q : Exit → Act → World → Prop} (hgd : o.guard = none) (s x : Operand)
    (ho : o.op = .call { callee := .builtin .append, args := #[s, x], argTypes := #[37, 37] }) (base gb cap k : Nat) (pre : List Nat) (z : Nat) (hs : a.eval s = .slice (some ⟨gb, 0, none⟩) k cap)
    (hown : V.ownsRow base 3 1 (.slice (some ⟨gb, 0, none⟩) k cap) k (irow pre)) (hx : a.eval x = .slice (some ⟨V.heap.size, 0, none⟩) 1 1) (hk : k ≤ 100000) (hbase : base ≤ V.heap.size)
    (h : ∀ gb' cap' w1, Hid (w1.ownsRow base 3 1 (.slice (some ⟨gb', 0, none⟩) (k + 1) cap') (k + 1) (irow (pre ++ [z]))) → Hid ((V.alloc (.cells #[.int .i64 (z : Int)] 3)).grownBy w1 (some gb)) → Hid (gb' = gb ∨ gb' = V.heap.size + 1) →
      wpListIn F nF Try.prog ops Q rest (a.put o.dst (.slice (some ⟨gb', 0, none⟩) (k + 1) cap')) w1) : wpListIn F nF Try.prog ops Q (o :: rest) a (V.alloc (.cells #[.int .i64 (z : Int)] 3)) := by
  obtain ⟨i0, hi0, hz0, hz1, hz2⟩ := info_parts int_info
  have hb : Blk (V.alloc (.cells #[.int .i64 (z : Int)] 3)) V.heap.size [.int .i64 (z : Int)] 3 := heap_alloc_new V _
  refine wpListIn_append_own_at _ hgd s x 37 ho base 3 i0 _ 1 8 Try.underlying37 hi0 hz0 hz1 hz2 rfl (by omega) _ k (irow pre) hs (hown.alloc _) ⟨V.heap.size, 0, none⟩ 1 1 [.int .i64 (z : Int)] hx rfl (fun j u hu => ?_) (by simp [Value.oneCell']) (by simp only [maxLen]; omega) (by omega) (by rw [World.size_alloc]; omega) ?_
  · match j, hu with
    | 0, hu =>
      cases hu
      have e : (⟨V.heap.size, 0, none⟩ : Addr).add 0 = ⟨V.heap.size, 0, none⟩ := by unfold Addr.add; split <;> simp_all
      rw [e, hb.cell]; rfl
  · intro v' w1 h2 h3 _ h5
    have h2' := h2
    obtain ⟨gb', cap', rfl⟩ := ownsRow_succ h2
    refine h gb' cap' w1 ?_ h3 ?_
    · show World.ownsRow _ _ _ _ _ _ _
      have e : irow (pre ++ [z]) = irow pre ++ [.int .i64 (z : Int)] := by simp [irow]
      rw [e]; exact h2'
    · show _ ∨ _
      rw [World.size_alloc] at h5
      simpa [Value.ownBlock] using h5
/-- The law of a range over the iterator, at the fence that lets all by. -/
theorem range_law {g : Operand} {assign body : Code} {Q : Exit → Act → World → Prop} {a : Act} {w : World} {lb : Array Value} (hg : a.eval g = .func (.func 32) #[] lb) {K : World → World → Prop} {S Sp : List Nat → Prop} {N : Nat}
    (hseq : SeqStopsK Fence.wide 2 Try.prog 32 lb (fun x : Nat => #[Value.int .i64 (x : Int)]) K S Sp N w) (hKt : ∀ {A B C : World}, K A B → K B C → K A C)
    (hKb : ∀ (W : World) (l : Nat) (o o' : Obj), w.heap.size ≤ l → W.heap[l]? = some o → o.isCells = false → o.isWalk = false → K W (W.putObj l o'))
    (I : List Nat → World → Prop) (hI : OwnFrom w.heap.size I) (h0 : I [] w)
    (hassign : ∀ (l : Nat) (x : Nat) (W : World) (R : Act → World → Prop), R { tmps := (a.tmps.setIfInBounds 88 (.int .i64 (x : Int))).setIfInBounds 20 (.int .i64 (x : Int)), defers := [] } W →
      assign.wpIn (Fence.wide.inRound l) 1 Try.prog (Exit.then R (fun _ _ _ => False)) { tmps := a.tmps.setIfInBounds 88 (.int .i64 (x : Int)), defers := [] } W)
    (hbody : ∀ (l : Nat) (pre : List Nat) (x : Nat) (W : World), I pre W → pre.length < N → body.wpIn (Fence.wide.inRound l) 1 Try.prog (ownPostG w.heap.size K I (fun _ _ _ => False) (pre ++ [x]) W) { tmps := (a.tmps.setIfInBounds 88 (.int .i64 (x : Int))).setIfInBounds 20 (.int .i64 (x : Int)), defers := [] } W)
    (hdone : ∀ (D : Nat) (xs : List Nat) (W : World), w.heap.size ≤ D → S xs → I xs W → W.heap[D]? = some (.deferred (some [])) → Q .normal { a with defers := { target := .collected D, args := #[] } :: a.defers } W) :
    (Code.rangeFunc g #[88] assign body).wp Try.prog Q a w :=
  wpIn_wide.1 (wpIn_rangeFunc_ownG (F := Fence.wide) (n := 3) rfl (by omega) hg trivial (enters_of Try.func32 (by kernel_rfl) rfl) hseq (fun h k => hKt h k) hKb (Below.refl _ _) (fun _ => rfl) I (fun _ _ _ => False) hI (fun _ _ _ _ _ hs _ _ => hs) h0
    (fun x => { tmps := (a.tmps.setIfInBounds 88 (.int .i64 (x : Int))).setIfInBounds 20 (.int .i64 (x : Int)), defers := [] }) (fun l x W R h => by simpa using hassign l x W R h) hbody hdone (fun _ _ _ _ _ _ h _ => h.elim))
set_option maxRecDepth 100000 in
set_option maxHeartbeats 8000000 in
theorem each_main (n m : Nat) (i : Int) (A A2 : Option Addr) (l l2 : List (Int × Int × Int)) (c c2 : Nat) (w : World) (hcs : CA w.heap.size w A l) (hcs2 : CA w.heap.size w A2 l2) (hn : n ≤ 100) (hm1 : 1 ≤ m) (hm : m ≤ 20) (hl : l.length ≤ 200) (hl2 : l2.length ≤ 200) :
    Calls Try.prog 5 #[.int .i64 (n : Int), .int .i64 (m : Int), .int .i64 i, .slice A l.length c, .slice A2 l2.length c2] w fun e w' => e = .returned (.bool true) ∧ Below w.heap.size w w' := by
  obtain ⟨N, hN⟩ : ∃ N, l.length = N := ⟨_, rfl⟩
  obtain ⟨N2, hN2⟩ : ∃ N2, l2.length = N2 := ⟨_, rfl⟩
  have HG : Hid (∀ W, Calls Try.prog 7 #[.int .i64 (n : Int), .int .i64 (m : Int), .slice A N c] W fun e w' => e = .returned (.bool false) ∧ W = w') := fun W => by
    have := great_any n m A N c W
    rwa [show decide (100 < (n : Int) ∨ 20 < (m : Int) ∨ 200 < N) = false by rw [decide_eq_false_iff_not]; omega] at this
  have HC := Lib.hid hcs
  have HC2 := Lib.hid hcs2
  have HNN := Lib.hid hN
  have HNN2 := Lib.hid hN2
  rw [hN] at hl ⊢
  rw [hN2] at hl2 ⊢
  have HX0 := Lib.hid (Boxes.made w n A2 N2 c2)
  have hd2 : decide ((200 : Int) < (N2 : Int)) = false := by simp; omega
  clear hcs hcs2 hN hN2
  refine (callsIn_wide (n := 3)).1 ?_
  refine callsIn_of_wp_marks Try.func5 rfl trivial ?_ rfl
  refine wpIn_wide.2 ?_
  simp only [Try.ntmps5, List.size_toArray, List.length_cons, List.length_nil, Nat.reduceAdd, Nat.reduceSub, Array.replicate_succ, Array.replicate_zero, List.push_toArray, List.append_toArray, List.nil_append, List.cons_append]
  go_wp2_with fail
  refine (alive_any _).mono ?_
  rintro e w1 ⟨rfl, b1⟩
  have HX1 := Lib.hid (HX0.out.below b1)
  have q1 := HX1.out.a.cell
  have q2 := HX1.out.b.cell
  clear b1 HX0
  go_wp2_with fail
  refine (HG.out _).mono ?_; rintro e w' ⟨rfl, rfl⟩
  go_wp2_with fail
  refine (new_yes n m (by omega) (by omega) (by omega) w1).mono ?_
  rintro e w2 ⟨p, rfl, hpn, hpm, hlo, r2, b2⟩
  have HPN := Lib.hid hpn
  have HPM := Lib.hid hpm
  have HLO : Hid (w.heap.size + 3 ≤ p.lo) := by show _ ≤ _; rw [hlo]; exact HX1.out.sz
  have R2 := Lib.hid r2
  have hal : Below w2.heap.size w2 (w2.alloc (.cells #[.pointer (some ⟨p.q, 0, none⟩)] 25)) := up_alloc (Below.refl _ _) _
  have HX2 := Lib.hid ((HX1.out.below b2).below hal)
  have BR2 := Lib.hid (Boxed.new w2 25 (.pointer (some ⟨p.q, 0, none⟩)))
  have R2' := Lib.hid (r2.below hal)
  have HHi : Hid (p.hi ≤ w2.heap.size) := r2.sz
  have q3 := HX2.out.a.cell
  clear hpn hpm hlo r2 b2 HX1 hal q1 q2 R2
  go_wp2_with fail
  refine (rnew_yes n m (by omega) (by omega) (by omega) _).mono ?_
  rintro e w3 ⟨rfl, r3, b3⟩
  rw [World.size_alloc] at r3
  simp only [World.size_alloc]
  have E4 : Hid (Env w n (.slice A2 N2 c2) p (w2.heap.size + 1) w2.heap.size w3.heap.size (fun _ => []) (w3.alloc (.cells #[.pointer (some ⟨w2.heap.size + 1 + 1, 0, none⟩)] 29))) := by
    have hal : Below w3.heap.size w3 (w3.alloc (.cells #[.pointer (some ⟨w2.heap.size + 1 + 1, 0, none⟩)] 29)) := up_alloc (Below.refl _ _) _
    have hsz := r3.sz
    exact ⟨⟨(R2'.out.below b3).below hal, by rw [HPN.out, HPM.out]; exact r3.below hal, by have := HHi.out; omega⟩, (HX2.out.below b3).below hal, box_below (box_below BR2.out b3) hal, Boxed.new w3 29 _, HLO.out, HHi.out, by omega, hsz⟩
  obtain ⟨Br, hBr⟩ : ∃ Br, w2.heap.size = Br := ⟨_, rfl⟩
  rw [hBr] at E4 ⊢
  obtain ⟨g, hg⟩ : ∃ g, Br + 1 = g := ⟨_, rfl⟩
  rw [hg] at E4 ⊢
  have q4 := E4.out.r.cell
  have q5 := E4.out.s.cell
  clear r3 b3 HX2 BR2 R2' HHi q3 hBr hg
  obtain ⟨Bs, hBs⟩ : ∃ Bs, w3.heap.size = Bs := ⟨_, rfl⟩
  rw [hBs] at E4 q5
  go_wp2_with fail
  clear q4 q5 hBs
  go_loopw [15] (fun i wr => ∃ (k : Nat) (L : Nat → List Nat), k ≤ N ∧ i = .int .i64 k ∧ Env w n (.slice A2 N2 c2) p g Br Bs L wr) (fun i _ => N - (intOf i).toNat)
  case atStart => exact ⟨0, _, by omega, rfl, E4.out⟩
  case round =>
    obtain ⟨k, L, hk, rfl, he⟩ := hrel
    have HE := Lib.hid he
    clear he E4
    by_cases hlt : k < N
    · obtain ⟨cb, co, rfl, hcb, hcl⟩ := (HC.out.below HE.out.boxes.bel) (by rw [HNN.out]; omega)
      obtain ⟨c0, c1, c2'⟩ := hcl k (by rw [HNN.out]; exact hlt)
      obtain ⟨z, hz⟩ : ∃ z, l.getD k (0, 0, 0) = z := ⟨_, rfl⟩
      rw [hz] at c0 c1 c2'
      obtain ⟨z0, z1, z2⟩ := z
      have HED := Lib.hid (HE.out.below ((Below.refl _ wr).drew))
      have HT := Lib.hid (told_any z0 z1 z2 HED.out.both)
      have q4 := HE.out.r.cell
      have q5 := HE.out.s.cell
      have i1 : (0 : Int) ≤ (k : Int) := by omega
      have i2 : (k : Int) < (N : Int) := by omega
      clear hz hcl
      go_wp2_with fail
      go_still_tail 6, (by kernel_rfl)
      change wpList _ _ _ _ _ wr.drew
      go_wp2_with fail
      refine HT.out.mono ?_
      intro e w4 ht
      have he := ht.1
      subst he
      obtain ⟨L', he'⟩ := HED.out.told ht
      have HE' := Lib.hid he'
      clear he' ht HT c0 c1 c2' q4 q5
      go_wp2
      go_roundw
      case rel => exact ⟨k + 1, L', by omega, by go_num, HE'.out⟩
      case measure => simp [intOf]; omega
    · obtain rfl : k = N := by omega
      have q4 := HE.out.r.cell
      have HAll := Lib.hid (all_r (i := i) HE.out.both.ring)
      clear HC HG HNN
      go_wp2_with fail
      refine HAll.out.mono ?_
      rintro e w5 ⟨gf, capf, rfl, hgf, ia5, b5⟩
      have E5 := Lib.hid (HE.out.below b5)
      have q5 := E5.out.r.cell
      have HGF : Hid (Bs < gf) := Nat.lt_of_lt_of_le HE.out.s.lt hgf
      have IA5 := Lib.hid ia5
      clear b5 hgf ia5 HAll HE q4
      go_wp2_with fail
      refine (clone_r E5.out.both.ring).mono ?_
      rintro e w6 ⟨pc, rfl, rc6, hcn, hcm, hclo, b6⟩
      have E6 := Lib.hid (E5.out.below b6)
      have RC6 := Lib.hid rc6
      have q6 := E6.out.r.cell
      have HCn := Lib.hid hcn
      have HCm := Lib.hid hcm
      have HCl : Hid (Bs < pc.lo) := by show _ < _; rw [hclo]; exact E5.out.s.lt
      have IA6 := Lib.hid ((IA5.out.below b6).more b6.size)
      clear hcn hcm hclo b6 rc6 E5 IA5 q5
      go_wp2_with fail
      refine (each_any p.q i w6).mono ?_
      rintro e w7 ⟨rfl, hw7⟩
      have b7 : Below w6.heap.size w6 w7 := by rw [hw7]; exact up_alloc (up_alloc (Below.refl _ _) _) _
      have E7 := Lib.hid (E6.out.below b7)
      have RC7 := Lib.hid (RC6.out.below b7)
      have IA7 := Lib.hid ((IA6.out.below b7).more b7.size)
      have BX1 : Hid (Boxed w7 w6.heap.size 25 (.pointer (some ⟨p.q, 0, none⟩))) := by rw [hw7]; exact (Boxed.new w6 25 _).alloc _
      have BX2 : Hid (Boxed w7 (w6.heap.size + 1) 3 (.int .i64 i)) := by
        rw [hw7]
        have := Boxed.new (w6.alloc (.cells #[.pointer (some ⟨p.q, 0, none⟩)] 25)) 3 (.int .i64 i)
        rwa [World.size_alloc] at this
      obtain ⟨B1, hB1⟩ : ∃ B1, w6.heap.size = B1 := ⟨_, rfl⟩
      have HPc : Hid (pc.hi ≤ w7.heap.size) := Nat.le_trans RC6.out.sz b7.size
      rw [hB1] at BX1 BX2 ⊢
      have hfn := func_nil
      clear b7 hw7 E6 RC6 IA6 q6 hB1
      go_wp2_with fail
      clear hfn
      have hst := own_empty w7
      have hal : Below w7.heap.size w7 ((w7.alloc (.cells #[] 3)).alloc (.cells #[.slice (some ⟨w7.heap.size, 0, none⟩) 0 0] 37)) := up_alloc (up_alloc (Below.refl _ _) _) _
      have hgot : Got ((w7.alloc (.cells #[] 3)).alloc (.cells #[.slice (some ⟨w7.heap.size, 0, none⟩) 0 0] 37)) (w7.heap.size + 1) w7.heap.size [] w7.heap.size 0 := by
        refine ⟨?_, hst.alloc _⟩
        have := Boxed.new (w7.alloc (.cells #[] 3)) 37 (.slice (some ⟨w7.heap.size, 0, none⟩) 0 0)
        rwa [World.size_alloc] at this
      have sz8 : ((w7.alloc (.cells #[] 3)).alloc (.cells #[.slice (some ⟨w7.heap.size, 0, none⟩) 0 0] 37)).heap.size = w7.heap.size + 2 := by rw [World.size_alloc, World.size_alloc]
      have E8 := Lib.hid (E7.out.below hal)
      have bx1 := box_below BX1.out hal
      have bx2 := box_below BX2.out hal
      have hinv : Inv w n (.slice A2 N2 c2) p g Br Bs pc L gf (of L i) w7.heap.size [] ((w7.alloc (.cells #[] 3)).alloc (.cells #[.slice (some ⟨w7.heap.size, 0, none⟩) 0 0] 37)) := by
        refine ⟨⟨L, E8.out⟩, RC7.out.below hal, IA7.out.below hal, ⟨_, _, hgot, fun j hj a N c hcell hN => ?_⟩, E7.out.s.lt, HPc.out, HCl.out, HGF.out, by omega⟩
        have eg := hal.block g (by have := E7.out.both.ref.sz; omega)
        rw [cell_same eg] at hcell
        obtain ⟨v, hv, A', c', rfl, _, _, _, h8⟩ := E7.out.both.ref.at_ hj
        rw [hv] at hcell
        simp only [Option.some.injEq, Value.slice.injEq] at hcell
        obtain ⟨rfl, rfl, rfl⟩ := hcell
        obtain ⟨b, e', _, h10, _⟩ := h8 hN
        cases e'
        show b ≠ w7.heap.size
        omega
      have HInv := Lib.hid hinv
      have hg8 := got_at hgot
      have HStops := Lib.hid (each_stops 2 (by omega) B1 (B1 + 1) (w7.heap.size + 1) p L i _ bx1.cell bx2.cell E8.out.both.ring (by rw [sz8]; omega) (by rw [hg8, sz8]; omega))
      have hle : (of L i).length ≤ n := by have := of_len E8.out.both.ring.good i; rw [HPN.out] at this; exact this
      have HLe := Lib.hid hle
      obtain ⟨W8, hW8⟩ : ∃ W8, (w7.alloc (.cells #[] 3)).alloc (.cells #[.slice (some ⟨w7.heap.size, 0, none⟩) 0 0] 37) = W8 := ⟨_, rfl⟩
      rw [hW8] at HInv HStops sz8 ⊢
      rw [sz8] at HStops
      obtain ⟨base, hbase⟩ : ∃ base, w7.heap.size = base := ⟨_, rfl⟩
      rw [hbase] at HInv HStops sz8 ⊢
      clear hst hal hgot E8 bx1 bx2 hinv hg8 hW8 hbase E7 RC7 IA7 BX1 BX2 HPc hle
      refine range_law rfl HStops.out Kp.trans (fun W l o o' h1 h2 h3 _ => Kp.put o' (by omega) h2 h3) _ (Inv.own (by have := HInv.out.sz; obtain ⟨L', he⟩ := HInv.out.env; have := he.boxes.bel.size; omega)) HInv.out ?assign ?body ?done
      case assign =>
        intro l' x W R hR
        simp only [List.setIfInBounds_toArray, List.set_cons_zero, List.set_cons_succ] at hR ⊢
        gi_wp2
        exact hR
      case body =>
        intro l' pre x W hinv hlt
        simp only [List.setIfInBounds_toArray, List.set_cons_zero, List.set_cons_succ]
        have HI := Lib.hid hinv
        obtain ⟨gb, cap, hgt, hav⟩ := hinv.got
        have q1 := hgt.box.cell
        have HGt := Lib.hid hgt
        have HAv := Lib.hid hav
        obtain ⟨L1, he1⟩ := hinv.env
        have a1 := he1.k1
        have a2 := he1.k2
        have a3 := he1.k3
        have a4 := he1.k4
        have a5 := hinv.k1
        have a6 : p.lo ≤ p.hi := by have := he1.both.ring.ok.q1; omega
        have a7 := hinv.sz
        have hle := HLe.out
        obtain ⟨K, hK⟩ : ∃ K, pre.length = K := ⟨_, rfl⟩
        have HK := Lib.hid hK
        rw [hK] at q1 hlt
        have n1 : ¬ base + 1 = w.heap.size + 1 := by omega
        have n2 : ¬ base + 1 = w.heap.size := by omega
        have n3 : ¬ base + 1 = Br := by omega
        have n4 : ¬ base + 1 = Bs := by omega
        clear hgt hav hK hinv he1
        have d1 : decide ((n : Int) < (K : Int) + 1) = false := by simp; omega
        by_cases hmore : K + 1 ≤ N2
        · obtain ⟨cb, co, rfl, hcb, hcl⟩ := HC2.out (by rw [HNN2.out]; omega)
          obtain ⟨z, hz⟩ : ∃ z, l2.getD K (0, 0, 0) = z := ⟨_, rfl⟩
          have HCl2 := Lib.hid (hcl K (by rw [HNN2.out]; omega))
          rw [hz] at HCl2
          obtain ⟨z0, z1, z2⟩ := z
          have n5 : ¬ base + 1 = cb := by omega
          have d2 : decide ((K : Int) + 1 ≤ (N2 : Int)) = true := by simp; omega
          have j1 : (0 : Int) ≤ (K : Int) := by omega
          have j2 : (K : Int) < (N2 : Int) := by omega
          have hwr := i64_in (K : Int) (by omega) (by omega)
          have hmx : Try.prog.follows .mixedOrders = true := by kernel_rfl
          clear hz hcl
          gi_wp2_with (gi_at_builtin; refine in_app (by rfl) _ _ (by rfl) base gb cap K pre x (by rfl) (by have := HGt.out.own; rw [HK.out] at this; exact this) (by rfl) (by omega) (by omega) ?_; intro gb' cap' w1 O1 G1 Nw; have hst := HI.out.append (x := x) HGt.out HAv.out (by rw [HK.out]; exact O1.out) G1.out Nw.out; rw [HK.out] at hst; have f1 := hst.1.cell; have f2 := hst.1.frozen; have HST := Lib.hid hst; have m1 := (cell_same (i := 0) (set_far (w := w1) (i := 0) (.slice (some ⟨gb', 0, none⟩) (K + 1) cap') (fun h => n1 h.symm))).symm.trans (box_more hst.2.1); have m0 := (cell_same (i := 0) (set_far (w := w1) (i := 0) (.slice (some ⟨gb', 0, none⟩) (K + 1) cap') (fun h => n2 h.symm))).symm.trans (box_items hst.2.1); obtain ⟨L2, he2⟩ := hst.2.1.env; have HT := Lib.hid (told_any z0 z1 z2 (he2.both.below ((Below.refl _ _).drew))); have m2 := (cell_same (i := 0) (set_far (w := w1) (i := 0) (.slice (some ⟨gb', 0, none⟩) (K + 1) cap') (fun h => n3 h.symm))).symm.trans he2.r.cell; have m3 := (cell_same (i := 0) (set_far (w := w1) (i := 0) (.slice (some ⟨gb', 0, none⟩) (K + 1) cap') (fun h => n4 h.symm))).symm.trans he2.s.cell; have c0 := ((cell_same (i := co + K * 3) (set_far (w := w1) (i := 0) (.slice (some ⟨gb', 0, none⟩) (K + 1) cap') (fun h => n5 h.symm))).symm.trans (he2.boxes.bel.cell (p := ⟨cb, co + K * 3, none⟩) hcb)).trans HCl2.out.1; have c1 := ((cell_same (i := co + K * 3 + 1) (set_far (w := w1) (i := 0) (.slice (some ⟨gb', 0, none⟩) (K + 1) cap') (fun h => n5 h.symm))).symm.trans (he2.boxes.bel.cell (p := ⟨cb, co + K * 3 + 1, none⟩) hcb)).trans HCl2.out.2.1; have c2' := ((cell_same (i := co + K * 3 + 2) (set_far (w := w1) (i := 0) (.slice (some ⟨gb', 0, none⟩) (K + 1) cap') (fun h => n5 h.symm))).symm.trans (he2.boxes.bel.cell (p := ⟨cb, co + K * 3 + 2, none⟩) hcb)).trans HCl2.out.2.2; clear hst he2)
          have k0 := (HST.out.1.set (.slice (some ⟨gb', 0, none⟩) (K + 1) cap')).cell
          obtain ⟨W2, hW2⟩ : ∃ W2, w1.setCell ⟨base + 1, 0, none⟩ (.slice (some ⟨gb', 0, none⟩) (K + 1) cap') = W2 := ⟨_, rfl⟩
          rw [hW2] at HST HT k0 ⊢
          obtain ⟨L2, he2⟩ := HST.out.2.1.env
          have r1 := he2.r.cell
          have r2 := he2.s.cell
          have r3 := he2.boxes.b.cell
          have r4 := (he2.boxes.bel.cell (p := ⟨cb, co + K * 3, none⟩) hcb).trans HCl2.out.1
          have r5 := (he2.boxes.bel.cell (p := ⟨cb, co + K * 3 + 1, none⟩) hcb).trans HCl2.out.2.1
          have r6 := (he2.boxes.bel.cell (p := ⟨cb, co + K * 3 + 2, none⟩) hcb).trans HCl2.out.2.2
          clear hW2 he2 m0 m1 m2 m3 c0 c1 c2' f1 f2 O1 G1 Nw q1
          refine round_still_tail 8 hmx (by kernel_rfl) (by kernel_rfl) ?_
          simp only [List.take_succ_cons, List.take_zero, List.drop_succ_cons, List.drop_zero]
          repeat still_step
          refine wpStill_nil ?_
          clear r1 r2 r3 r4 r5 r6
          gi_wp2_with fail
          refine ⟨trivial, ?_⟩
          refine (CallsIn.inRound l' (callsIn_wide.2 HT.out)).mono ?_
          intro e w3 ht
          have he := ht.1
          subst he
          have hid : Inv w n (.slice (some ⟨cb, co, none⟩) N2 c2) p g Br Bs pc L gf (of L i) base (pre ++ [x]) W2.drew := Inv.own (Nat.le_refl _) (pre ++ [x]) W2 W2.drew none HST.out.2.1 (grown_none ((Below.refl _ W2).drew)) (fun r e => by cases e)
          have hst3 := hid.told ht
          have HST3 := Lib.hid hst3
          obtain ⟨gb3, cap3, hg3, _⟩ := hst3.1.got
          have s1 := hg3.box.cell
          have s2 := box_items hst3.1
          rw [List.length_append, HK.out] at s1
          have s1' : w3.cell? ⟨base + 1, 0, none⟩ = some (.slice (some ⟨gb3, 0, none⟩) (K + 1) cap3) := s1
          clear ht hst3 hid hg3 HT s1 k0
          gi_wp2
          rw [sz8]
          exact ⟨(HST.out.2.2.1.trans ((KeepsOthers.drew W2).from _)).trans HST3.out.2.1, (Kp.trans HST.out.2.2.2 (⟨.inl rfl, Nat.le_refl _, fun _ _ _ _ _ _ _ => rfl⟩ : Kp (base + 1) (base + 2) W2 W2.drew)).trans HST3.out.2.2, HST3.out.1⟩
        · have d2 : decide ((K : Int) + 1 ≤ (N2 : Int)) = false := by simp; omega
          gi_wp2_with (gi_at_builtin; refine in_app (by rfl) _ _ (by rfl) base gb cap K pre x (by rfl) (by have := HGt.out.own; rw [HK.out] at this; exact this) (by rfl) (by omega) (by omega) ?_; intro gb' cap' w1 O1 G1 Nw; have hst := HI.out.append (x := x) HGt.out HAv.out (by rw [HK.out]; exact O1.out) G1.out Nw.out; rw [HK.out] at hst; have f1 := hst.1.cell; have f2 := hst.1.frozen; have HST := Lib.hid hst; have m1 := (cell_same (i := 0) (set_far (w := w1) (i := 0) (.slice (some ⟨gb', 0, none⟩) (K + 1) cap') (fun h => n1 h.symm))).symm.trans (box_more hst.2.1); have m0 := (cell_same (i := 0) (set_far (w := w1) (i := 0) (.slice (some ⟨gb', 0, none⟩) (K + 1) cap') (fun h => n2 h.symm))).symm.trans (box_items hst.2.1); clear hst)
          rw [sz8]
          exact ⟨HST.out.2.2.1, HST.out.2.2.2, HST.out.2.1⟩
      case done =>
        intro D ys W hD hys hinv hK
        subst hys
        have HI := Lib.hid hinv
        have HK := Lib.hid hK
        have hDw : w.heap.size + 3 ≤ D := by
          obtain ⟨L8, he8⟩ := HInv.out.env
          exact Nat.le_trans he8.boxes.sz hD
        have hDl := (Array.getElem?_eq_some_iff.1 hK).1
        have hRC := Lib.hid hinv.clone
        clear hinv hK hD HInv HStops HC2 HNN2
        dsimp only
        go_wp2_with fail
        go_loopw [21] (fun i wr => ∃ I : Nat, I ≤ m ∧ i = .int .i64 I ∧ Below W.heap.size W wr) (fun i _ => m - (intOf i).toNat)
        case atStart => exact ⟨0, by omega, rfl, Below.refl _ _⟩
        case round =>
          obtain ⟨I, hI, rfl, hbel⟩ := hrel
          have HB := Lib.hid hbel
          clear hbel
          by_cases hlt : I < m
          · have HAll := Lib.hid (all_r (i := (I : Int)) (hRC.out.below HB.out))
            rw [of_nat] at HAll
            have hle : (L I).length ≤ 100 := by have h1 := hRC.out.good.len I; rw [HCn.out, HPN.out] at h1; omega
            have HIn : Hid (∀ (V : World) (X : Nat), Below W.heap.size W V → X ∈ L I → Calls Try.prog 13 #[.pointer (some ⟨pc.q, 0, none⟩), .int .i64 (X : Int)] V fun e w' => e = .returned (.int .i64 (I : Int)) ∧ V = w') := fun V X hV hX => in_r (hRC.out.below hV) (.inl ⟨X, I, rfl, hX, rfl⟩)
            generalize L I = ys at HAll hle HIn
            obtain ⟨N3, hN3⟩ : ∃ N3, ys.length = N3 := ⟨_, rfl⟩
            have HN3 := Lib.hid hN3
            rw [hN3] at hle
            clear hN3
            go_wp2_with fail
            refine HAll.out.mono ?_
            rintro e w6 ⟨gl, cap, rfl, hgl, ia6, b6⟩
            rw [HN3.out]
            have B6 := Lib.hid (up_trans HB.out b6)
            have IA6 := Lib.hid ia6
            clear hgl ia6 b6 HAll
            go_wp2_with fail
            go_loop [120] (fun k => ∃ K : Nat, K ≤ N3 ∧ k = .int .i64 K) (fun k => N3 - (intOf k).toNat)
            case atStart => exact ⟨0, by omega, rfl⟩
            case round =>
              obtain ⟨K, hK, rfl⟩ := hrel
              by_cases hlt3 : K < N3
              · have hkl : K < ys.length := by rw [HN3.out]; exact hlt3
                have hmem : ys[K] ∈ ys := List.getElem_mem hkl
                have q1 : w6.cell? ⟨gl, K, none⟩ = some (.int .i64 ((ys[K] : Nat) : Int)) := by
                  obtain ⟨b, o, e, _, hc⟩ := IA6.out (by omega)
                  cases e
                  have := hc K hkl
                  rw [Nat.zero_add, List.getD_eq_getElem?_getD, List.getElem?_eq_getElem hkl] at this
                  exact this
                have HIn' := Lib.hid (HIn.out w6 ys[K] B6.out hmem)
                obtain ⟨X, hX⟩ : ∃ X, ys[K] = X := ⟨_, rfl⟩
                rw [hX] at q1 HIn'
                have j1 : (0 : Int) ≤ (K : Int) := by omega
                have j2 : (K : Int) < (N3 : Int) := by omega
                have d4 : ((I : Int) != (I : Int)) = false := by simp
                clear hX hkl hmem
                go_wp2_with (go_at_call 13; refine HIn'.out.mono ?_; rintro e w' ⟨rfl, rfl⟩)
                go_round
                case rel => exact ⟨K + 1, by omega, by go_num⟩
                case measure => simp [intOf]; omega
              · obtain rfl : K = N3 := by omega
                go_wp2_with fail
                go_roundw
                case rel => exact ⟨I + 1, by omega, by go_num, B6.out⟩
                case measure => simp [intOf]; omega
          · obtain rfl : I = m := by omega
            obtain ⟨gb, cap, hgt, _⟩ := HI.out.got
            obtain ⟨L', he⟩ := HI.out.env
            have hbx := he.boxes.below HB.out
            have HBX := Lib.hid hbx
            have q1 := (box_below hgt.box HB.out).cell
            have hle : (of L i).length ≤ 4096 := by have := HLe.out; omega
            have IG : Hid (IA wr.heap.size wr (some ⟨gb, 0, none⟩) (of L i)) := ((own_ints hgt.own rfl).below HB.out).more HB.out.size
            have IB : Hid (IA wr.heap.size wr (some ⟨gf, 0, none⟩) (of L i)) := ((HI.out.bef.more (by have := HI.out.sz; omega)).below HB.out).more HB.out.size
            have HAll := Lib.hid (fun V hV => all_r (i := i) (hRC.out.below (w' := V) hV))
            generalize of L i = xs at hle IG IB HAll q1 ⊢
            have HS1 := Lib.hid (same_any (some ⟨gb, 0, none⟩) (some ⟨gf, 0, none⟩) xs xs cap capf _ _ wr IG.out IB.out hle)
            rw [show decide (xs = xs) = true by simp] at HS1
            obtain ⟨N4, hN4⟩ : ∃ N4, xs.length = N4 := ⟨_, rfl⟩
            have HN4 := Lib.hid hN4
            rw [hN4] at HS1 q1 ⊢
            clear hgt he hbx hN4
            go_wp2_with fail
            refine HS1.out.mono ?_
            rintro e w6 ⟨rfl, d6⟩
            have B6 := Lib.hid (up_trans HB.out d6.below)
            have HBX6 := Lib.hid (HBX.out.below d6.below)
            have IB6 := Lib.hid ((IB.out.below d6.below).more d6.below.size)
            clear d6 q1 HS1
            go_wp2_with fail
            refine (HAll.out w6 B6.out).mono ?_
            rintro e w7 ⟨gl, cap7, rfl, hgl, ia7, b7⟩
            rw [HN4.out]
            have B7 := Lib.hid (up_trans B6.out b7)
            have HBX7 := Lib.hid (HBX6.out.below b7)
            have HS2 := Lib.hid (same_any (some ⟨gl, 0, none⟩) (some ⟨gf, 0, none⟩) xs xs cap7 capf _ _ w7 ia7 (IB6.out.below b7) hle)
            rw [show decide (xs = xs) = true by simp, HN4.out] at HS2
            clear hgl ia7 b7 HAll
            go_wp2_with fail
            refine HS2.out.mono ?_
            rintro e w8 ⟨rfl, d8⟩
            have B8 := Lib.hid (up_trans B7.out d8.below)
            have HBX8 := Lib.hid (HBX7.out.below d8.below)
            have q2 := HBX8.out.c.cell
            have q3 := HBX8.out.c.frozen
            clear d8 HS2
            go_wp2_with fail
            have hK8 : (w8.setCell ⟨w.heap.size + 1 + 1, 0, none⟩ (.bool true)).heap[D]? = some (.deferred (some [])) := (set_far _ (by omega)).trans ((B8.out.block D hDl).trans HK.out)
            refine ⟨by simp, .inl ⟨_, _, rfl, run_takeDeferred hK8, ?_⟩⟩
            refine ⟨_, results_bool rfl ((cell_same (World.putObj_heap_other (by omega))).trans (HBX8.out.c.set (.bool true)).cell), rfl, ?_⟩
            exact (HBX8.out.set true).trans ⟨rfl, rfl, rfl, by simp, fun k hk => World.putObj_heap_other (by omega)⟩
theorem each_whole (n m i : Int) (A A2 : Option Addr) (l l2 : List (Int × Int × Int)) (c c2 : Nat) (w : World) (hcs : CA w.heap.size w A l) (hcs2 : CA w.heap.size w A2 l2) :
    Calls Try.prog 5 #[.int .i64 n, .int .i64 m, .int .i64 i, .slice A l.length c, .slice A2 l2.length c2] w fun e w' => e = .returned (.bool true) ∧ Below w.heap.size w w' := by
  by_cases h : 100 < n ∨ 20 < m ∨ 200 < l.length ∨ 200 < l2.length
  · exact each_great n m i A A2 _ c _ c2 w h
  · by_cases h2 : n < 0 ∨ m < 1
    · exact each_no n m i A A2 _ c _ c2 w (by omega) (by omega) h2
    · obtain ⟨n, rfl⟩ := Int.eq_ofNat_of_zero_le (show 0 ≤ n by omega)
      obtain ⟨m, rfl⟩ := Int.eq_ofNat_of_zero_le (show 0 ≤ m by omega)
      exact each_main n m i A A2 l l2 c c2 w hcs hcs2 (by omega) (by omega) (by omega) (by omega) (by omega)
end Go.Proofs.Ytjjilnklcjgndaa
