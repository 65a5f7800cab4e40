import Derived.Test.YtnffagpdnklnkaaGreatDoorV37
import Derived.Test.YtnffagpdnklnkaaGreatDoorV36
import Derived.Test.YtnffagpdnklnkaaGreatDoorV24
import Derived.Test.YtnffagpdnklnkaaGreatDoorV26
import Derived.Test.YtnffagpdnklnkaaGreatDoorV35
import Derived.Lib.SliceRun
set_option linter.unusedVariables false
set_option linter.unusedSimpArgs false
set_option maxRecDepth 8000
namespace Go.Proofs.YtnffagpdnklnkaaGreatDoor.Pak
open Go.RowKit Go.Proofs.YtnffagpdnklnkaaGreatDoor Go.Proofs.YtnffagpdnklnkaaGreatDoor.Spl SiftM Go.Shelf Go.Sort Go.Lib
def pA (x : Nat) : Value := .pointer (some ⟨x, 0, none⟩)
/-- What is asked of the predicate. -/
def TkP (S : List Nat) (m : Nat) (tk : Nat → Bool) (ps : List Nat) (w : World) : Prop := ∀ W, Kp S w W → ∀ x ∈ ps, Calls Tryz.prog 118 #[.pointer (some ⟨m, 0, none⟩), pA x] W fun e w' => e = .returned (.bool (tk x)) ∧ Kp [] W w'
set_option maxHeartbeats 1000000 in
theorem idx_part (g n c m : Nat) (tk : Nat → Bool) (ps : List Nat) (w : World) (hn : ps.length = n) (hb : n ≤ 1000000) (hc : ∀ (j x : Nat), ps[j]? = some x → w.cell? ⟨g, j, none⟩ = some (pA x)) (hp : TkP [] m tk ps w) :
    Calls Tryz.prog 155 #[.slice (some ⟨g, 0, none⟩) n c, .func (.func 118) #[.pointer (some ⟨m, 0, none⟩)] #[]] w fun e w' => ∃ i : Int, e = .returned (.int .i64 i) ∧ Kp [] w w' ∧ ((i = -1 ∧ ∀ x ∈ ps, tk x = false) ∨ ∃ (k x : Nat), ps[k]? = some x ∧ i = (k : Int) ∧ tk x = true ∧ ∀ y ∈ ps.take k, tk y = false) := by
  have HN := hide hn
  have HC := hide hc
  have HP := hide hp
  clear hn hc hp
  go_enter Tryz.func155, Tryz.ntmps155
  go_wp2_with fail
  go_loopw [5, 8] (fun iu iv wr => ∃ (i : Nat), i ≤ n ∧ iv = .int .i64 (i : Int) ∧ Hid (Kp [] w wr) ∧ Hid (∀ y ∈ ps.take i, tk y = false)) (fun _ iv _ => n - (intOf iv).toNat)
  case atStart => exact ⟨0, by omega, rfl, Kp.refl _ _, fun y hy => by simp at hy⟩
  case round =>
    obtain ⟨i, hi, rfl, hK, hA⟩ := hrel
    by_cases hlt : i < n
    · have hiL : i < ps.length := by rw [HN.out]; exact hlt
      obtain ⟨x, hx⟩ : ∃ x, ps[i] = x := ⟨_, rfl⟩
      have hx' : ps[i]? = some x := by rw [List.getElem?_eq_getElem hiL, hx]
      have hce := hK.out.cellv (HC.out i x hx') (by simp)
      have hcall := HP.out wr hK.out x (by rw [← hx]; exact List.getElem_mem hiL)
      have HX := hide hx'
      have HX2 := hide hx
      have j1 : (0 : Int) ≤ (i : Int) := by omega
      have j2 : (i : Int) < (n : Int) := by omega
      clear hx hx'
      unfold pA at hce hcall
      cases hq : tk x with
      | true =>
        rw [hq] at hcall
        go_wp2_with (refine hcall.mono ?_; rintro e w' ⟨rfl, hk⟩)
        go_ret
        exact ⟨_, rfl, hK.out.next hk, .inr ⟨i, x, HX.out, rfl, hq, hA.out⟩⟩
      | false =>
        rw [hq] at hcall
        go_wp2_with (refine hcall.mono ?_; rintro e w' ⟨rfl, hk⟩)
        go_roundw
        case measure => simp [intOf]; omega
        case rel =>
          refine ⟨i + 1, by omega, by go_num, hK.out.next hk, fun y hy => ?_⟩
          rw [take_snocL ps i hiL] at hy
          rcases List.mem_append.mp hy with h | h
          · exact hA.out y h
          · rw [HX2.out] at h; rw [List.mem_singleton.mp h]; exact hq
    · have hlt' : ¬ (i : Int) < (n : Int) := by omega
      go_wp2_with fail
      go_ret
      refine ⟨_, rfl, hK.out, .inl ⟨rfl, fun x hx => hA.out x ?_⟩⟩
      rw [List.take_of_length_le (by rw [HN.out]; omega)]; exact hx
theorem take_put (cur : Array Value) (o : Nat) (vs : List Value) (h : o + vs.length ≤ cur.size) : (putA cur o vs).toList.take o = cur.toList.take o := by
  rw [putA_list vs cur o h, List.append_assoc, List.take_append_of_le_length (by simp; omega), List.take_take, Nat.min_self]
theorem set_take (cs : Array Value) (i : Nat) (v : Value) (h : i < cs.size) : (cs.setIfInBounds i v).toList.take (i + 1) = cs.toList.take i ++ [v] := by
  rw [Array.toList_setIfInBounds, take_snocL _ i (by simpa using h), List.take_set, List.set_eq_of_length_le (by simp; omega)]
  simp
set_option maxHeartbeats 4000000 in
theorem del_part (g n c m : Nat) (tk : Nat → Bool) (ps : List Nat) (cur : Array Value) (w : World) (hn : ps.length = n) (hb : n ≤ 1000000) (hcn : n ≤ c) (hc63 : c ≤ 9223372036854775807) (hg : w.heap[g]? = some (.cells cur 76 (0, 0))) (hcs : cur.size = c) (hcur : cur.toList.take n = ps.map pA) (hp : TkP [g] m tk ps w) (ht : ∃ x ∈ ps, tk x = true) :
    Calls Tryz.prog 117 #[.slice (some ⟨g, 0, none⟩) n c, .func (.func 118) #[.pointer (some ⟨m, 0, none⟩)] #[]] w fun e w' => ∃ k, e = .returned (.slice (some ⟨g, 0, none⟩) k c) ∧ Kp [g] w w' ∧ k = (ps.filter fun x => !tk x).length ∧ ∃ cs : Array Value, w'.heap[g]? = some (.cells cs 76 (0, 0)) ∧ cs.size = c ∧ cs.toList.take k = (ps.filter fun x => !tk x).map pA := by
  have hcell : ∀ (j x : Nat), ps[j]? = some x → cur.toList[j]? = some (pA x) := fun j x hx => by
    have hl := (List.getElem?_eq_some_iff.mp hx).1
    have : (cur.toList.take n)[j]? = some (pA x) := by rw [hcur]; simp [hx]
    rwa [List.getElem?_take_of_lt (by omega)] at this
  have hidx := idx_part g n c m tk ps w hn hb (fun j x hx => by rw [(cells_at hg j).1]; exact hcell j x hx) (fun W hW => hp W (hW.mono (by simp)))
  have HN := hide hn
  have HC := hide hcell
  have HP := hide hp
  have HT := hide ht
  have HG := hide hg
  have HS := hide hcs
  have HU := hide hcur
  clear hn hcell hp ht hg hcs hcur
  go_enter Tryz.func117, Tryz.ntmps117
  go_wp2_with fail
  refine hidx.mono ?_
  rintro e w1 ⟨iv, rfl, hk1, hcase⟩
  rcases hcase with ⟨rfl, hno⟩ | ⟨k0, x0, hx0, rfl, htk, hbef⟩
  · exfalso
    obtain ⟨x, hx, h⟩ := HT.out
    rw [hno x hx] at h; cases h
  have hk0 : k0 < n := by rw [← HN.out]; exact (List.getElem?_eq_some_iff.mp hx0).1
  have hfil0 : (ps.take k0).filter (fun x => !tk x) = ps.take k0 := List.filter_eq_self.mpr fun y hy => by simp [hbef y hy]
  have hx0' : ps[k0]'(by rw [HN.out]; exact hk0) = x0 := (List.getElem?_eq_some_iff.mp hx0).2
  have hfil : (ps.take (k0 + 1)).filter (fun x => !tk x) = ps.take k0 := by
    rw [take_snocL ps k0 (by rw [HN.out]; exact hk0), List.filter_append, hfil0, hx0']; simp [htk]
  have HF := hide hfil
  have hne1 : ((k0 : Int) == -1) = false := beq_eq_false_iff_ne.2 (by omega)
  have hne2 : ¬ (k0 : Int) = -1 := by omega
  have HK1 := hide hk1
  clear hfil hfil0 hbef hx0 hx0' hk1
  go_wp2_with fail
  go_loopw [5, 6, 7] (fun i5 i6 _ wr => ∃ (i j : Nat) (cs : Array Value), i < j ∧ j ≤ n ∧ i5 = .int .i64 (i : Int) ∧ i6 = .int .i64 (j : Int) ∧ Hid (Kp [g] w wr) ∧ Hid (wr.heap[g]? = some (.cells cs 76 (0, 0))) ∧ Hid (cs.size = c) ∧ Hid (i = ((ps.take j).filter fun x => !tk x).length) ∧ Hid (cs.toList.take i = ((ps.take j).filter fun x => !tk x).map pA) ∧ Hid (∀ t, j ≤ t → cs.toList[t]? = cur.toList[t]?)) (fun _ i6 _ _ => n - (intOf i6).toNat)
  case atStart =>
    refine ⟨k0, k0 + 1, cur, by omega, by omega, rfl, by go_num, HK1.out.mono (by simp), HK1.out.heap HG.out (by simp), HS.out, ?_, ?_, fun _ _ => rfl⟩
    · show k0 = _
      rw [HF.out, List.length_take, HN.out]; omega
    · show _ = _
      rw [HF.out, List.map_take, ← HU.out, List.take_take]; congr 1; omega
  case round =>
    obtain ⟨i, j, cs, hij, hj, rfl, rfl, hK, hB, hZ, hI, hA, hR⟩ := hrel
    by_cases hlt : j < n
    · have hjL : j < ps.length := by rw [HN.out]; exact hlt
      obtain ⟨x, hx⟩ : ∃ x, ps[j] = x := ⟨_, rfl⟩
      have hx' : ps[j]? = some x := by rw [List.getElem?_eq_getElem hjL, hx]
      have hce : wr.cell? ⟨g, j, none⟩ = some (pA x) := by rw [(cells_at hB.out j).1, hR.out j (Nat.le_refl _)]; exact HC.out j x hx'
      have hcall := HP.out wr hK.out x (by rw [← hx]; exact List.getElem_mem hjL)
      have htj : ps.take (j + 1) = ps.take j ++ [x] := by rw [take_snocL ps j hjL, hx]
      have HTJ := hide htj
      have j1 : (0 : Int) ≤ (j : Int) := by omega
      have j2 : (j : Int) < (n : Int) := by omega
      have j3 : (0 : Int) ≤ (i : Int) := by omega
      have j4 : (i : Int) < (n : Int) := by omega
      have hics : i < cs.size := by rw [hZ.out]; omega
      clear hx hx' htj
      unfold pA at hce hcall
      cases hq : tk x with
      | true =>
        rw [hq] at hcall
        go_wp2_with (refine hcall.mono ?_; rintro e w' ⟨rfl, hk⟩)
        go_roundw
        case measure => simp [intOf]; omega
        case rel =>
          refine ⟨i, j + 1, cs, by omega, by omega, rfl, by go_num, hK.out.next (hk.mono (by simp)), hk.heap hB.out (by simp), hZ, ?_, ?_, fun t ht => hR.out t (by omega)⟩
          · show i = _
            rw [HTJ.out, List.filter_append]; simp [hq]; exact hI.out
          · show _ = _
            rw [HTJ.out, List.filter_append]; simp [hq]; exact hA.out
      | false =>
        rw [hq] at hcall
        have hst : ∀ w', Kp [] wr w' → w'.frozen? ⟨g, i, none⟩ = false ∧ ∃ ov, w'.cell? ⟨g, i, none⟩ = some ov := fun w' hk => by
          have := cells_at (hk.heap hB.out (by simp)) i
          refine ⟨this.2, cs.toList[i]'(by simpa using hics), ?_⟩
          rw [this.1, List.getElem?_eq_getElem]
        have HST := hide hst
        clear hst
        go_wp2_with (refine hcall.mono ?_; rintro e w' ⟨rfl, hk⟩; obtain ⟨hfz, ov, hov⟩ := HST.out w' hk)
        go_roundw
        case measure => simp [intOf]; omega
        case rel =>
          refine ⟨i + 1, j + 1, cs.setIfInBounds i (pA x), by omega, by omega, by go_num, by go_num, (hK.out.next (hk.mono (by simp))).next (kp_set _ g i _), heap_setCell_same _ g i cs 76 _ (hk.heap hB.out (by simp)), ?_, ?_, ?_, fun t ht => ?_⟩
          · show _ = _
            rw [Array.size_setIfInBounds]; exact hZ.out
          · show i + 1 = _
            rw [HTJ.out, List.filter_append, List.length_append, ← hI.out]; simp [hq]
          · show _ = _
            rw [set_take cs i _ hics, HTJ.out, List.filter_append, List.map_append, hA.out]; simp [hq]
          · rw [← hR.out t (by omega), Array.toList_setIfInBounds, List.getElem?_set_ne (by omega)]
    · obtain rfl : j = n := by omega
      have hltz : ¬ (j : Int) < (j : Int) := by omega
      have hall : ps.take j = ps := List.take_of_length_le (by rw [HN.out]; omega)
      have hcl : ∀ ty, (Builtin.clear_ #[66] ty #[.slice (some ⟨g, 0 + i, none⟩) (j - i) (c - i)]).run Tryz.prog wr = .ok (.tuple #[]) (wr.setCells g (0 + i) (List.replicate (j - i) (.pointer none))) :=
        fun ty => Lib.run_clear_slice wr _ _ ty _ Tryz.underlying66 Tryz.zeroValue76 rfl rfl g (0 + i) _ _ (by omega) (fun t ht => by
          rw [(cells_at hB.out _).1, List.getElem?_eq_getElem (by rw [Array.length_toList, hZ.out]; omega)]; rfl) (fun t ht => (cells_at hB.out _).2)
      simp only [Nat.zero_add] at hcl
      go_wp2_with fail
      go_ret
      have hsz : i + (List.replicate (j - i) (Value.pointer none)).length ≤ cs.size := by rw [hZ.out]; simp; omega
      rw [hall] at hI hA
      refine ⟨i, rfl, hK.out.next (kp_setCells _ _ _ _), hI.out, _, heap_setCells_same _ _ _ _ _ _ hB.out, by rw [putA_size]; exact hZ.out, ?_⟩
      rw [take_put _ _ _ hsz]; exact hA.out
end Go.Proofs.YtnffagpdnklnkaaGreatDoor.Pak
namespace Go.Proofs.YtnffagpdnklnkaaGreatDoor.Pak
open Go.RowKit Go.Proofs.YtnffagpdnklnkaaGreatDoor Go.Proofs.YtnffagpdnklnkaaGreatDoor.Spl SiftM
theorem region_roundE {P : Program} {n l id z : Nat} {ops : Array Oper} {Q : Exit → Act → World → Prop} {S : World → Prop} {a : Act} {w : World} (hm : P.follows .mixedOrders = true) (hL : ¬ LetsOut Q) (hd : ∀ (i : Nat) (o : Oper) c, ops[i]? = some o → o.op ≠ .defer c)
    (h : ∀ w1 : World, Kp [] w w1 → w1.heap = w.heap → wpAnyE P .any ops Q S z ops.size (Array.replicate ops.size false) a w1) : (Code.region id ops true).wpIn (Fence.wide.inRound l) n P Q a w :=
  wpIn_region_any hm (any_round hL hd _ _ _ _ (anyE_any _ _ _ _ (h _ ((Kp.refl _ _).drewN 1) rfl)))
/-- Docs taken over, in a row of their own. -/
structure MovIs (w : World) (B : Nat) (v : Value) (L : List Mv) : Prop where
  row : w.ownsRow B 191 3 v L.length (movV L)
  each : ∀ x ∈ L, w.ownsRow B 9 1 (mvW x) x.1.2.length (strV x.1.2)
  apart : L.Pairwise fun x y => ∀ g, (mvW x).ownBlock = some g → (mvW y).ownBlock ≠ some g
theorem MovIs.nil (w : World) (B : Nat) : MovIs w B (.slice none 0 0) [] := ⟨World.ownsRow_nil _ _ _ _, by simp, List.Pairwise.nil⟩
theorem MovIs.kp {S : List Nat} {w w' : World} {B : Nat} {v : Value} {L : List Mv} (h : MovIs w B v L) (k : Kp S w w') (hS : ∀ g ∈ S, ∀ cs t, (t = 9 ∨ t = 191) → w.heap[g]? ≠ some (.cells cs t (0, 0))) : MovIs w' B v L := by
  refine ⟨k.owns h.row (fun g hg hx => ?_), fun x hx => k.owns (h.each x hx) (fun g hg hgS => ?_), h.apart⟩
  · obtain ⟨cs, hc⟩ := owns_typed h.row hg
    exact hS g hx cs 191 (.inr rfl) hc
  · obtain ⟨cs, hc⟩ := owns_typed (h.each x hx) hg
    exact hS g hgS cs 9 (.inl rfl) hc
theorem MovIs.snoc {S : List Nat} {W W' : World} {B : Nat} {v v' : Value} {L : List Mv} {x : Mv} (h : MovIs W B v L) (hB : B ≤ W.heap.size) (hr : W'.ownsRow B 191 3 v' (L.length + 1) (movV L ++ encMv x)) (hx : W'.ownsRow W.heap.size 9 1 (mvW x) x.1.2.length (strV x.1.2)) (k : Kp S W W')
    (hS : ∀ g ∈ S, ∀ cs, W.heap[g]? ≠ some (.cells cs 9 (0, 0))) : MovIs W' B v' (L ++ [x]) := by
  refine ⟨by rw [List.length_append, movV_snoc]; exact hr, fun y hy => ?_, ?_⟩
  · rcases List.mem_append.mp hy with hy | hy
    · exact k.owns (h.each y hy) (fun g hg hgS => by
        obtain ⟨cs, hc⟩ := owns_typed (h.each y hy) hg
        exact hS g hgS cs hc)
    · rw [List.mem_singleton.mp hy]; exact owns_low hx hB
  · rw [List.pairwise_append]
    refine ⟨h.apart, List.pairwise_singleton _ _, fun y hy z hz g hg hg2 => ?_⟩
    rw [List.mem_singleton.mp hz] at hg2
    have h1 := (h.each y hy).lt g hg
    have h2 := hx.lt g hg2
    omega
/-- All but b and the rows of docs taken over stays. -/
structure Kv (b : Nat) (w w' : World) : Prop where
  size : w.heap.size ≤ w'.heap.size
  block : ∀ k o, w.heap[k]? = some o → k ≠ b → (∀ cs, o ≠ .cells cs 191 (0, 0)) → w'.heap[k]? = some o
theorem Kv.refl (b : Nat) (w : World) : Kv b w w := ⟨Nat.le_refl _, fun _ _ h _ _ => h⟩
theorem Kv.trans {b : Nat} {w w1 w2 : World} (h : Kv b w w1) (k : Kv b w1 w2) : Kv b w w2 := ⟨Nat.le_trans h.size k.size, fun i o hi hb ho => k.block i o (h.block i o hi hb ho) hb ho⟩
theorem Kv.of_kp {S : List Nat} {b : Nat} {w w' : World} (k : Kp S w w') (hS : ∀ g ∈ S, g = b ∨ ∃ cs, w.heap[g]? = some (.cells cs 191 (0, 0))) : Kv b w w' := by
  refine ⟨k.size, fun i o hi hb ho => k.heap hi (fun hx => ?_)⟩
  rcases hS i hx with e | ⟨cs, e⟩
  · exact hb e
  · rw [hi] at e; exact ho cs (Option.some.inj e)
theorem Kv.cell {b g j : Nat} {w w' : World} {v : Value} {cs : Array Value} {t : TypeId} (k : Kv b w w') (h : w.heap[g]? = some (.cells cs t (0, 0))) (ht : t ≠ 191) (hg : g ≠ b) : w'.heap[g]? = some (.cells cs t (0, 0)) :=
  k.block g _ h hg (fun cs' e => by injection e with _ e2; exact ht e2)
/-- The mark of a range over a function. -/
def colM (D : Nat) : Deferred := { target := .collected D, args := #[] }
theorem kp_deferred (W : World) (D : Nat) : Kp [D] W (W.putObj D (.deferred none)) := by
  refine ⟨rfl, rfl, rfl, by simp [World.putObj], fun i hi hn => ?_⟩
  unfold World.putObj
  simp only
  rw [Array.getElem?_setIfInBounds_ne (by simp at hn; exact fun e => hn e.symm)]
/-- All marks are taken. -/
theorem leaves_marks {fn : Func} {R : Ending → World → Prop} {tmps : Array Value} : ∀ (Ds : List Nat) (w : World), Ds.Nodup → (∀ D ∈ Ds, w.heap[D]? = some (.deferred (some []))) →
    (∀ w', Kp Ds w w' → LeavesInM Fence.wide 5 Tryz.prog fn tmps R [] .returning w') → LeavesInM Fence.wide 5 Tryz.prog fn tmps R (Ds.map colM) .returning w
  | [], w, _, _, h => h w (Kp.refl _ _)
  | D :: r, w, hnd, hD, h => by
    have hn := List.nodup_cons.mp hnd
    have kD := kp_deferred w D
    refine ⟨by simp, .inl ⟨D, _, rfl, run_takeDeferred (hD D (by simp)), ?_⟩⟩
    refine leaves_marks r _ hn.2 (fun E hE => kD.heap (hD E (List.mem_cons_of_mem _ hE)) (by simp; rintro rfl; exact hn.1 hE)) fun w' k => h w' ?_
    exact (kD.mono (by simp)).next (k.mono (fun x hx => List.mem_cons_of_mem _ hx))
theorem info191 : (Tryz.prog.info? 191).map (fun i => (i.zero, i.size, i.bytes)) = some (some (.agg #[.int .i64 0, .slice none 0 0, .bool false]), 3, 40) := by kernel_rfl
end Go.Proofs.YtnffagpdnklnkaaGreatDoor.Pak
