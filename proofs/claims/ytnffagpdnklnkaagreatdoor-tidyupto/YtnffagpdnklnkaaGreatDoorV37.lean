import Derived.Test.YtnffagpdnklnkaaGreatDoorV36
import Derived.Test.YtnffagpdnklnkaaGreatDoorV26
import Derived.Test.YtnffagpdnklnkaaGreatDoorV34
import Derived.Test.YtnffagpdnklnkaaGreatDoorV22
import Derived.LaidEqlPtr
set_option linter.unusedVariables false
set_option linter.unusedSimpArgs false
set_option maxRecDepth 8000
namespace Go.Proofs.YtnffagpdnklnkaaGreatDoor.Pak
open Go.RowKit Go.Proofs.YtnffagpdnklnkaaGreatDoor Go.Proofs.YtnffagpdnklnkaaGreatDoor.Spl SiftM
/-- What a merge holds of a part: where it is, and which of its docs it takes over. -/
def stA (x : Nat × Nat) : List Value := [.pointer (some ⟨x.1, 0, none⟩), .int .u64 (x.2 : Int)]
def stV (l : List (Nat × Nat)) : List Value := l.flatMap stA
theorem stV_snoc (l : List (Nat × Nat)) (x : Nat × Nat) : stV (l ++ [x]) = stV l ++ stA x := by simp [stV]
theorem info185 : (Tryz.prog.info? 185).map (fun i => (i.zero, i.size, i.bytes)) = some (some (.agg #[.pointer none, .int .u64 0]), 2, 16) := by kernel_rfl
/-- The merge at m. -/
def MrgIs (w : World) (B m : Nat) (l : List (Nat × Nat)) : Prop := ∃ v, w.heap[m]? = some (.cells #[v] 182 (0, 0)) ∧ w.ownsRow B 185 2 v l.length (stV l)
def stkOf (t : PPt) : Nat × Nat := (t.p, aliveN t.T.length t.dead)
set_option maxRecDepth 100000 in
set_option maxHeartbeats 4000000 in
theorem mergeOf_any (n c : Nat) (a : Option Addr) (Qs : List PPt) (w : World) (hn : Qs.length = n) (hc : 0 < n → ∃ g, a = some ⟨g, 0, none⟩ ∧ ∀ (i : Nat) (t : PPt), Qs[i]? = some t → w.cell? ⟨g, i, none⟩ = some (.pointer (some ⟨t.p, 0, none⟩))) (hQ : ∀ t ∈ Qs, PartIs w t) (hH : ∀ t ∈ Qs, t.hi ≤ w.heap.size) (hb : n ≤ 1000) :
    Calls Tryz.prog 72 #[.slice a n c] w fun e w' => ∃ m, e = .returned (.pointer (some ⟨m, 0, none⟩)) ∧ w.heap.size ≤ m ∧ MrgIs w' w.heap.size m (Qs.map stkOf) ∧ Kp [] w w' := by
  obtain ⟨i0, hi0, hz0, hz1, hz2⟩ := info_parts info185
  obtain ⟨W1, hW1⟩ : ∃ W1, w.alloc (.cells #[.slice none 0 0] 182) = W1 := ⟨_, rfl⟩
  have k1 : Kp [] w W1 := by rw [← hW1]; exact (Kp.refl _ _).alloc _
  have hs1 : W1.heap.size = w.heap.size + 1 := by rw [← hW1]; simp
  have hb1 : W1.heap[w.heap.size]? = some (.cells #[.slice none 0 0] 182 (0, 0)) := by rw [← hW1]; exact heap_alloc_new w _
  have HB1 := hide hb1
  have HQ := hide hQ
  have HC := hide hc
  have HN := hide hn
  have mixed : Tryz.prog.follows .mixedOrders = true := by kernel_rfl
  clear hb1 hQ hc hn
  go_enter Tryz.func72, Tryz.ntmps72
  go_wp2_with (simp only [hW1])
  clear hW1
  go_loopw [10] (fun iv wr => ∃ (i : Nat) (va : Option Addr) (vc : Nat), i ≤ n ∧ iv = .int .i64 (i : Int) ∧ Hid (wr.heap[w.heap.size]? = some (.cells #[.slice va i vc] 182 (0, 0))) ∧ Hid (wr.ownsRow (w.heap.size + 1) 185 2 (.slice va i vc) i (stV ((Qs.take i).map stkOf))) ∧ Hid (Kp [w.heap.size] W1 wr)) (fun iv _ => n - (intOf iv).toNat)
  case atStart => exact ⟨0, none, 0, by omega, rfl, HB1, World.ownsRow_nil _ _ _ _, Kp.refl _ _⟩
  case round =>
    obtain ⟨i, va, vc, hi, rfl, hC, hO, hK⟩ := hrel
    have hksz := hK.out.size
    by_cases hlt : i < n
    · obtain ⟨gp, rfl, hcell⟩ := HC.out (by omega)
      have hkw : Kp [w.heap.size] w wr := (k1.mono (by simp)).next hK.out
      have hiL : i < Qs.length := by rw [HN.out]; exact hlt
      have hce := hcell i _ (List.getElem?_eq_getElem hiL)
      have hgl : gp < w.heap.size := World.block_lt_of_cell? w ⟨gp, i, none⟩ hce
      have hpc := hkw.cellv hce (by simp; omega)
      have hp0 := HQ.out _ (List.getElem_mem hiL)
      have htk : (Qs.take (i + 1)).map stkOf = (Qs.take i).map stkOf ++ [stkOf Qs[i]] := by rw [take_snocL Qs i hiL, List.map_append]; rfl
      obtain ⟨t, ht⟩ : ∃ t, Qs[i] = t := ⟨_, rfl⟩
      rw [ht] at hpc hp0 htk
      have hhi : t.hi ≤ w.heap.size ∨ w.heap.size < t.lo := .inl (hH t (by rw [← ht]; exact List.getElem_mem hiL))
      have hpw : PartIs wr.drew t := hp0.kp (hkw.next ((Kp.refl _ _).drewN 1)) (by have := heap_lt hp0.cells; simp; omega) (fun x hx => by
        simp at hx; subst hx; rcases hhi with h | h
        · exact .inr h
        · exact .inl h)
      obtain ⟨p0, p1⟩ := part_two hpw
      have hal := alive_any t.p t.q _ _ _ _ _ t.dead wr.drew p0 p1 hpw.seg.segC hpw.fine.len hpw.dlt
      obtain ⟨al, hal'⟩ : ∃ al, aliveN t.T.length t.dead = al := ⟨_, rfl⟩
      rw [hal'] at hal
      have hstk : stkOf t = (t.p, al) := by unfold stkOf; rw [hal']
      rw [hstk] at htk
      have k2 : Kp [] wr wr.drew := (Kp.refl _ _).drewN 1
      have hC2 := k2.heap hC.out (by simp)
      have q0 : wr.drew.cell? ⟨w.heap.size, 0, none⟩ = some (.slice va i vc) := by simp [World.cell?, hC2]
      have HO2 := hide (k2.owns hO.out (by simp))
      have HC2 := hide hC2
      have HTK := hide htk
      have j1 : (0 : Int) ≤ (i : Int) := by omega
      have j2 : (i : Int) < (n : Int) := by omega
      clear hpw hp0 hC2 ht htk hstk hal' hcell hce
      go_wp2_with fail
      refine region_E mixed (fun w' => w'.cell? ⟨w.heap.size, 0, none⟩ = some (.slice va i vc)) 13 ?_
      have hS0 : wr.drew.cell? ⟨w.heap.size, 0, none⟩ = some (.slice va i vc) := q0
      refine anyE_tk 0 14 (.pointer (some ⟨w.heap.size, 0, none⟩)) rfl (Or.inl ⟨by rfl, fun w' hS => by have s1 := hS; go_simp⟩) hS0 ?_
      try simp only [Act.put, List.setIfInBounds_toArray, List.set_cons_zero, List.set_cons_succ]
      refine anyE_tk 1 15 (.pointer (some ⟨w.heap.size, 0, none⟩)) rfl (Or.inl ⟨by rfl, fun w' hS => by have s1 := hS; go_simp⟩) hS0 ?_
      try simp only [Act.put, List.setIfInBounds_toArray, List.set_cons_zero, List.set_cons_succ]
      refine anyE_tk 2 16 (.pointer (some ⟨w.heap.size, 0, none⟩)) rfl (Or.inl ⟨by rfl, fun w' hS => by have s1 := hS; go_simp⟩) hS0 ?_
      try simp only [Act.put, List.setIfInBounds_toArray, List.set_cons_zero, List.set_cons_succ]
      refine anyE_tk 3 17 (.pointer (some ⟨w.heap.size, 0, none⟩)) rfl (Or.inl ⟨by rfl, fun w' hS => by have s1 := hS; go_simp⟩) hS0 ?_
      try simp only [Act.put, List.setIfInBounds_toArray, List.set_cons_zero, List.set_cons_succ]
      refine anyE_tk 4 18 (.slice va i vc) rfl (Or.inl ⟨by rfl, fun w' hS => by have s1 := hS; go_simp⟩) hS0 ?_
      try simp only [Act.put, List.setIfInBounds_toArray, List.set_cons_zero, List.set_cons_succ]
      refine anyE_tk 5 19 (.pointer (some ⟨t.p, 0, none⟩)) rfl (Or.inl ⟨by rfl, fun w' hS => by have s1 := hS; go_simp⟩) hS0 ?_
      try simp only [Act.put, List.setIfInBounds_toArray, List.set_cons_zero, List.set_cons_succ]
      refine anyE_tk 6 20 (.pointer (some ⟨t.p, 0, none⟩)) rfl (Or.inl ⟨by rfl, fun w' hS => by have s1 := hS; go_simp⟩) hS0 ?_
      try simp only [Act.put, List.setIfInBounds_toArray, List.set_cons_zero, List.set_cons_succ]
      refine anyE_call (i := 7) (o := { dst := some 21, op := _, type := _, pos := _, after := _, guard := _ }) (by kernel_rfl) rfl rfl (by go_simp) hal ?_
      rintro e W3 ⟨rfl, k3⟩
      have q3 := k3.cellv q0 (by simp)
      refine ⟨_, rfl, .inr q3, ?_⟩
      try simp only [Act.put, List.setIfInBounds_toArray, List.set_cons_zero, List.set_cons_succ]
      refine anyE_ran (i := 8) (o := { dst := some 22, op := _, type := _, pos := _, after := _, guard := _ }) (v := .agg #[.pointer (some ⟨t.p, 0, none⟩), .int .u64 (al : Int)]) (w' := W3) (by kernel_rfl) rfl rfl (by go_simp) (.inr q3) ?_
      try simp only [Act.put, List.setIfInBounds_toArray, List.set_cons_zero, List.set_cons_succ]
      obtain ⟨W4, hW4⟩ : ∃ W4, W3.alloc (.cells #[.pointer (some ⟨t.p, 0, none⟩), .int .u64 (al : Int)] 185) = W4 := ⟨_, rfl⟩
      have k4 : Kp [] W3 W4 := by rw [← hW4]; exact (Kp.refl _ _).alloc _
      have hz4 : W4.heap.size = W3.heap.size + 1 := by rw [← hW4]; simp
      have hn4 : W4.heap[W3.heap.size]? = some (.cells #[.pointer (some ⟨t.p, 0, none⟩), .int .u64 (al : Int)] 185 (0, 0)) := by rw [← hW4]; exact heap_alloc_new _ _
      have q4 := k4.cellv q3 (by simp)
      refine anyE_ran (i := 9) (o := { dst := some 23, op := _, type := _, pos := _, after := _, guard := _ }) (v := .slice (some ⟨W3.heap.size, 0, none⟩) 1 1) (w' := W4) (by kernel_rfl) rfl rfl (by rw [← hW4]; go_simp) (.inr q4) ?_
      try simp only [Act.put, List.setIfInBounds_toArray, List.set_cons_zero, List.set_cons_succ]
      refine anyE_wp (i := 10) (o := { dst := some 24, op := _, type := _, pos := _, after := _, guard := _ }) (by kernel_rfl) rfl rfl ?_
      have k34 := k3.next k4
      have hz3 := k3.size
      have hdz : wr.drew.heap.size = wr.heap.size := rfl
      refine wp_append_lies W4 _ _ 180 rfl (w.heap.size + 1) 185 i0 _ 2 16 Tryz.underlying180 hi0 hz0 hz1 hz2 rfl (by omega) (.slice va i vc) i (stV ((Qs.take i).map stkOf)) rfl (k34.owns HO2.out (by simp)) ⟨W3.heap.size, 0, none⟩ 1 1 [.pointer (some ⟨t.p, 0, none⟩), .int .u64 (al : Int)] rfl rfl (World.news_of_block (cs := #[.pointer (some ⟨t.p, 0, none⟩), .int .u64 (al : Int)]) (t := 185) (fr := (0, 0)) hn4) (by simp [Value.oneCell']) (by omega) (by unfold maxLen; omega) (by omega) (by omega) W4.heap.size rfl ?_
      intro g5 cap5 W5 hown5 hgrow hat hlt5
      have k5 := grown_kp hgrow
      have hlow : ∀ x ∈ (Value.slice va i vc).ownBlock.toList, w.heap.size + 1 ≤ x := fun x hx => (HO2.out.lt x (Option.mem_toList.1 hx)).1
      have hC5 := k5.heap (k34.heap HC2.out (by simp)) (fun hx => by have := hlow _ hx; omega)
      have q5 : W5.cell? ⟨w.heap.size, 0, none⟩ = some (.slice va i vc) := by simp [World.cell?, hC5]
      refine ⟨.inr q5, ?_⟩
      try simp only [Act.put, List.setIfInBounds_toArray, List.set_cons_zero, List.set_cons_succ]
      refine anyE_ran (i := 11) (o := { dst := some 25, op := _, type := _, pos := _, after := _, guard := _ }) (v := .pointer (some ⟨w.heap.size, 0, none⟩)) (w' := W5) (by kernel_rfl) rfl rfl (by go_simp) (.inr q5) ?_
      try simp only [Act.put, List.setIfInBounds_toArray, List.set_cons_zero, List.set_cons_succ]
      refine anyE_ran (i := 12) (o := { dst := some 26, op := _, type := _, pos := _, after := _, guard := _ }) (v := .pointer (some ⟨w.heap.size, 0, none⟩)) (w' := W5) (by kernel_rfl) rfl rfl (by go_simp) (.inr q5) ?_
      try simp only [Act.put, List.setIfInBounds_toArray, List.set_cons_zero, List.set_cons_succ]
      have zf : W5.frozen? ⟨w.heap.size, 0, none⟩ = false := by simp [World.frozen?, hC5]
      refine anyE_wp (i := 13) (o := { dst := none, op := _, type := _, pos := _, after := _, guard := _ }) (by kernel_rfl) rfl rfl ?_
      go_simp
      refine anyE_done (by kernel_rfl) ?_ _
      have ks := kp_set W5 w.heap.size 0 (.slice (some ⟨g5, 0, none⟩) (i + 1) cap5)
      have hnb : ∀ g, (Value.slice (some ⟨g5, 0, none⟩) (i + 1) cap5).ownBlock = some g → g ∉ [w.heap.size] := fun g hg hx => by
        have := (hown5.lt g hg).1
        simp at hx
        omega
      have hfin : Hid ((W5.setCell ⟨w.heap.size, 0, none⟩ (.slice (some ⟨g5, 0, none⟩) (i + 1) cap5)).ownsRow (w.heap.size + 1) 185 2 (.slice (some ⟨g5, 0, none⟩) (i + 1) cap5) (i + 1) (stV ((Qs.take (i + 1)).map stkOf))) := by
        show World.ownsRow _ _ _ _ _ _ _
        rw [HTK.out, stV_snoc]
        exact ks.owns hown5 hnb
      have hCf : Hid ((W5.setCell ⟨w.heap.size, 0, none⟩ (.slice (some ⟨g5, 0, none⟩) (i + 1) cap5)).heap[w.heap.size]? = some (.cells #[.slice (some ⟨g5, 0, none⟩) (i + 1) cap5] 182 (0, 0))) := heap_setCell_same W5 w.heap.size 0 _ 182 _ hC5
      have hKf : Hid (Kp [w.heap.size] W1 (W5.setCell ⟨w.heap.size, 0, none⟩ (.slice (some ⟨g5, 0, none⟩) (i + 1) cap5))) := by
        have e1 : Kp [w.heap.size] W1 W4 := (hK.out.next ((Kp.refl _ _).drewN 1)).next (k34.mono (by simp))
        exact (e1.trans k5 (fun x hx => .inr (by have := hlow x hx; omega))).next ks
      clear hown5 hgrow hat hlt5 k5 hC5 q5 zf ks hnb k34 k4 hn4 hW4 q4 q3
      go_wp2_with fail
      go_roundw
      case rel => exact ⟨i + 1, _, _, by omega, by go_num, hCf, hfin, hKf⟩
      case measure => simp [intOf]; omega
    · have hin : i = n := by omega
      subst hin
      have hte : (Qs.take i).map stkOf = Qs.map stkOf := by rw [List.take_of_length_le (by rw [HN.out]; exact Nat.le_refl _)]
      have hOe := hO.out
      rw [hte] at hOe
      have hmg : MrgIs wr w.heap.size w.heap.size (Qs.map stkOf) := ⟨_, hC.out, by rw [List.length_map, HN.out]; exact ownsRow_base_a hOe (by omega)⟩
      have kf : Kp [] w wr := k1.trans hK.out (fun x hx => .inr (by simp at hx; omega))
      go_wp2_with fail
      go_ret
      exact ⟨w.heap.size, rfl, Nat.le_refl _, hmg, kf⟩
theorem pxC_set11 (s : PSt) (v : Value) : (pxC s).setIfInBounds 11 v = pxC { s with mv := v } := by
  unfold pxC pxA
  rfl
/-- Nothing, or a merge at m. -/
def mvV : Option Nat → Value
  | none => .pointer none
  | some m => .pointer (some ⟨m, 0, none⟩)
theorem MrgIs.kp {S : List Nat} {w w' : World} {B m : Nat} {l : List (Nat × Nat)} (h : MrgIs w B m l) (k : Kp S w w') (hm : m ∉ S) (hS : ∀ x ∈ S, ∀ cs fr, w.heap[x]? ≠ some (.cells cs 185 fr)) : MrgIs w' B m l := by
  obtain ⟨v, h1, h2⟩ := h
  refine ⟨v, k.heap h1 hm, k.owns h2 (fun g hg hx => ?_)⟩
  rcases h2.2 with ⟨e, _⟩ | ⟨g', cap, cur, e, _, hgg, _⟩
  · rw [e] at hg; simp [Value.ownBlock] at hg
  · rw [e] at hg
    have : g' = g := by simpa [Value.ownBlock] using hg
    subst this
    exact hS g' hx _ _ hgg
def StartPost (X B : Nat) (O : List Nat) (s : PSt) (mo : Option Nat) (w : World) (e : Ending) (w' : World) : Prop :=
      (mo.isSome = true ∧ e = .returned (.tuple #[.bool false, .int .i64 10]) ∧ Kp [] w w') ∨ (mo = none ∧ e = .returned (.tuple #[.bool false, .int .i64 0]) ∧ Kp [] w w') ∨
      (mo = none ∧ ∃ m Qs, e = .returned (.tuple #[.bool true, .int .i64 0]) ∧ w.heap.size ≤ m ∧ PIs w' X B O { s with mv := mvV (some m) } ∧ MrgIs w' w.heap.size m (Qs.map stkOf) ∧ Qs ≠ [] ∧ Qs.length ≤ 1000 ∧ Qs.Sublist s.Ps ∧ Kp [X] w w')
set_option maxHeartbeats 2000000 in
theorem start_any (X B : Nat) (O : List Nat) (s : PSt) (mo : Option Nat) (w : World) (h : PIs w X B O s) (hmv : s.mv = mvV mo) (hf : 2 ≤ s.fac) (hf2 : s.fac ≤ 1000) (hb : s.Ps.length ≤ 1000000) :
    Calls Tryz.prog 31 #[.pointer (some ⟨X, 0, none⟩)] w fun e w' => StartPost X B O s mo w e w' := by
  have x6 := px_down h
  have x11 : w.cell? ⟨X, 11, none⟩ = some (mvV mo) := by simp [World.cell?, h.blk, pxC, pxA, hmv]
  have hdue := due_any X B s.Ps.length O s w h hf hf2 rfl hb
  have HP := hide h
  clear h
  cases mo with
  | some m0 =>
    unfold mvV at x11
    go_enter Tryz.func31, Tryz.ntmps31
    go_wp2_with fail
    go_ret2
    exact .inl ⟨rfl, rfl, Kp.refl _ _⟩
  | none =>
    unfold mvV at x11
    go_enter Tryz.func31, Tryz.ntmps31
    go_wp2_with fail
    refine hdue.mono ?_
    rintro e w1 ⟨a, c, ps, rfl, hps, hcell, k1⟩
    obtain ⟨n, hn⟩ : ∃ n, ps.length = n := ⟨_, rfl⟩
    rw [hn]
    by_cases h0 : n = 0
    · subst h0
      clear hdue
      go_wp2_with fail
      go_ret2
      exact .inr (.inl ⟨rfl, rfl, k1⟩)
    · rcases hps with e1 | ⟨k, hk, hlen⟩
      · rw [e1] at hn; exact absurd hn.symm h0
      obtain ⟨Qs, hQs⟩ : ∃ Qs, (s.Ps.filter fun t => decide (clsF s.fac t.T.length = k)).take s.fac = Qs := ⟨_, rfl⟩
      have hmap : ps = Qs.map PPt.p := by rw [hk, ← hQs]; unfold ofCls; rw [List.map_take]
      have hsub : Qs.Sublist s.Ps := by rw [← hQs]; exact (List.take_sublist _ _).trans List.filter_sublist
      have hP1 := HP.out.kp k1 (by simp)
      have hQn : Qs.length = n := by rw [← hn, hmap, List.length_map]
      have hmg := mergeOf_any n c a Qs w1 hQn (fun hpos => by
        obtain ⟨g, ea, hc⟩ := hcell (by omega)
        refine ⟨g, ea, fun i t ht => ?_⟩
        obtain ⟨hi, e2⟩ := List.getElem?_eq_some_iff.1 ht
        have := hc i (by omega)
        rw [this]
        simp [hmap, e2]) (fun t ht => hP1.each t (hsub.subset ht)) (fun t ht => hP1.hiLe t (hsub.subset ht)) (by omega)
      have hne : Qs ≠ [] := fun e => by rw [e] at hQn; exact h0 hQn.symm
      have HP1 := hide hP1
      have hnI : ((n : Int) == 0) = false := by rw [beq_eq_false_iff_ne]; omega
      have hz1 := k1.size
      clear hdue hP1 hcell
      go_wp2_with fail
      refine hmg.mono ?_
      rintro e w2 ⟨m, rfl, hm, hM, k2⟩
      have k12 := k1.next k2
      have hX2 := k12.heap HP.out.blk (by simp)
      obtain ⟨q1, qf⟩ : w2.cell? ⟨X, 11, none⟩ = some (.pointer none) ∧ w2.frozen? ⟨X, 11, none⟩ = false := by constructor <;> simp [World.cell?, World.frozen?, hX2, pxC, pxA, hmv, mvV]
      have ks := kp_set w2 X 11 (mvV (some m))
      have hXf : (w2.setCell ⟨X, 11, none⟩ (mvV (some m))).heap[X]? = some (.cells (pxC { s with mv := mvV (some m) }) 72 (0, 0)) := by
        rw [heap_setCell_same w2 X 11 _ 72 _ hX2, pxC_set11]
      have hXlt : X < w.heap.size := heap_lt HP.out.blk
      have hP2 : PIs w2 X B O s := HP.out.kp k12 (by simp)
      have hPf : PIs (w2.setCell ⟨X, 11, none⟩ (mvV (some m))) X B O { s with mv := mvV (some m) } := hP2.turnX (S := []) ks (by simp) rfl hXf
      have hMf : MrgIs (w2.setCell ⟨X, 11, none⟩ (mvV (some m))) w.heap.size m (Qs.map stkOf) := by
        obtain ⟨v, h1, h2⟩ := hM
        have h3 : MrgIs w2 w.heap.size m (Qs.map stkOf) := ⟨v, h1, ownsRow_base_a h2 hz1⟩
        refine h3.kp ks (by simp; omega) (fun x hx cs fr h4 => ?_)
        simp at hx
        subst hx
        rw [hX2] at h4
        simp at h4
      have kf : Kp [X] w (w2.setCell ⟨X, 11, none⟩ (mvV (some m))) := (k12.mono (by simp)).next ks
      have hfin : StartPost X B O s none w (.returned (.tuple #[.bool true, .int .i64 0])) (w2.setCell ⟨X, 11, none⟩ (mvV (some m))) := .inr (.inr ⟨rfl, m, Qs, rfl, by omega, hPf, hMf, hne, by omega, hsub, kf⟩)
      have HFIN := hide hfin
      clear hmg hPf hMf hM hP2 hXf hfin hX2
      unfold mvV at HFIN
      go_wp2_with fail
      go_ret2
      exact HFIN.out
end Go.Proofs.YtnffagpdnklnkaaGreatDoor.Pak
namespace Go.Proofs.YtnffagpdnklnkaaGreatDoor.Pak
open Go.RowKit Go.Proofs.YtnffagpdnklnkaaGreatDoor Go.Proofs.YtnffagpdnklnkaaGreatDoor.Spl SiftM Go.Shelf Go.Sort
def AbPost (X B : Nat) (O : List Nat) (s : PSt) (mo : Option Nat) (w : World) (e : Ending) (w' : World) : Prop :=
  e = .returned (.tuple #[.bool mo.isSome, .int .i64 0]) ∧ PIs w' X B O { s with mv := mvV none } ∧ Kp [X] w w'
set_option maxHeartbeats 1000000 in
theorem abandon_any (X B : Nat) (O : List Nat) (s : PSt) (mo : Option Nat) (w : World) (h : PIs w X B O s) (hmv : s.mv = mvV mo) :
    Calls Tryz.prog 33 #[.pointer (some ⟨X, 0, none⟩)] w fun e w' => AbPost X B O s mo w e w' := by
  have x6 := px_down h
  have x11 : w.cell? ⟨X, 11, none⟩ = some (mvV mo) := by simp [World.cell?, h.blk, pxC, pxA, hmv]
  have xf : w.frozen? ⟨X, 11, none⟩ = false := by simp [World.frozen?, h.blk]
  have HP := hide h
  cases mo with
  | none =>
    have hs : ({ s with mv := mvV none } : PSt) = s := by rw [← hmv]
    have hfin : AbPost X B O s none w (.returned (.tuple #[.bool false, .int .i64 0])) w := ⟨rfl, by rw [hs]; exact h, Kp.refl _ _⟩
    have HF := hide hfin
    clear h hfin
    unfold mvV at x11
    go_enter Tryz.func33, Tryz.ntmps33
    go_wp2_with fail
    go_ret2
    exact HF.out
  | some m =>
    have ks := kp_set w X 11 (mvV none)
    have hXf : (w.setCell ⟨X, 11, none⟩ (mvV none)).heap[X]? = some (.cells (pxC { s with mv := mvV none }) 72 (0, 0)) := by
      rw [heap_setCell_same w X 11 _ 72 _ h.blk, pxC_set11]
    have hfin : AbPost X B O s (some m) w (.returned (.tuple #[.bool true, .int .i64 0])) (w.setCell ⟨X, 11, none⟩ (mvV none)) := ⟨rfl, h.turnX (S := []) ks (by simp) rfl hXf, ks⟩
    have HF := hide hfin
    clear h hfin ks hXf
    unfold mvV at x11 HF
    go_enter Tryz.func33, Tryz.ntmps33
    go_wp2_with fail
    go_ret2
    exact HF.out
/-- A block of cells lies there. -/
def AtC (w : World) (g : Nat) : Prop := ∃ cs ty, w.heap[g]? = some (.cells cs ty (0, 0))
theorem AtC.kp {S : List Nat} {w w' : World} {g : Nat} (h : AtC w g) (k : Kp S w w') (hg : g ∉ S) : AtC w' g := by
  obtain ⟨cs, ty, h⟩ := h
  exact ⟨cs, ty, k.heap h hg⟩
theorem info81 : ∃ i, Tryz.prog.info? 81 = some i ∧ i.size ≠ 0 := by
  have h : (Tryz.prog.info? 81).map (fun i => i.size) = some 2 := by kernel_rfl
  cases hi : Tryz.prog.info? 81 with
  | none => rw [hi] at h; simp at h
  | some i => rw [hi] at h; simp at h; exact ⟨i, rfl, by omega⟩
/-- Two parts: are they one? -/
theorem eql_part (a p : Nat) (w : World) (ha : AtC w a) (hp : AtC w p) : (binOp .eql 76 (.pointer (some ⟨a, 0, none⟩)) (.pointer (some ⟨p, 0, none⟩))).run Tryz.prog w = .ok (.bool (decide (a = p))) w := by
  obtain ⟨i, hi, hz⟩ := info81
  have hu : Tryz.prog.underlying 76 = some (.pointer 81) := by kernel_rfl
  by_cases e : a = p
  · subst e
    rw [run_eql_ptr_same w _ hu hi]; simp
  · obtain ⟨ca, ta, ha⟩ := ha
    obtain ⟨cb, tb, hp⟩ := hp
    rw [run_eql_ptr_other w hu hi hz (fun h => e (by injection h)) ha hp]; simp [e]
/-- Does a stake speak of this part? -/
theorem takes1_any (pb p : Nat) (x : Nat × Nat) (w : World) (hp : w.cell? ⟨pb, 0, none⟩ = some (.pointer (some ⟨p, 0, none⟩))) (ha : AtC w x.1) (hb : AtC w p) :
    Calls Tryz.prog 157 #[.agg (stA x).toArray, .pointer (some ⟨pb, 0, none⟩)] w fun e w' => e = .returned (.bool (decide (x.1 = p))) ∧ w' = w.alloc (.cells (stA x).toArray 185) := by
  obtain ⟨a, b⟩ := x
  have k1 : Kp [] w (w.alloc (.cells (stA (a, b)).toArray 185)) := (Kp.refl _ _).alloc _
  have hq := eql_part a p _ (ha.kp k1 (by simp)) (hb.kp k1 (by simp))
  have hp2 := k1.cellv hp (by simp)
  simp only [stA, List.getElem_toArray, List.getElem_cons_zero] at hq hp2 ⊢
  generalize decide (a = p) = d at hq ⊢
  go_enter Tryz.func157, Tryz.ntmps157
  go_wp2_with fail
  go_ret
  exact ⟨rfl, rfl⟩
theorem any_pmap {α β : Type} {P : α → Prop} (f : (a : α) → P a → β) (p : β → Bool) (q : α → Bool) (hpq : ∀ a h, p (f a h) = q a) (l : List α) (h : ∀ a ∈ l, P a) : (l.pmap f h).any p = l.any q := by
  induction l with
  | nil => rfl
  | cons x r ih => simp [hpq, ih]
theorem stV_get (l : List (Nat × Nat)) (j : Nat) (hj : j < l.length) (i : Nat) (v : Value) (h : (stA l[j])[i]? = some v) : (stV l)[j * 2 + i]? = some v := by
  induction l generalizing j with
  | nil => simp at hj
  | cons x r ih =>
    have hi : i < 2 := by
      have := (List.getElem?_eq_some_iff.mp h).1
      simpa [stA] using this
    cases j with
    | zero =>
      have : stV (x :: r) = stA x ++ stV r := by simp [stV]
      rw [this, List.getElem?_append_left (by simp [stA]; omega)]
      simpa using h
    | succ j =>
      have e : stV (x :: r) = stA x ++ stV r := by simp [stV]
      rw [e, List.getElem?_append_right (by simp [stA]; omega)]
      have := ih j (by simpa using hj) (by simpa using h)
      rw [← this]; congr 1; simp [stA]; omega
set_option maxHeartbeats 1000000 in
/-- Does the merge take this part away? -/
theorem takes_any (m p B : Nat) (l : List (Nat × Nat)) (w : World) (hm : MrgIs w B m l) (hb : AtC w p) (hl : ∀ x ∈ l, AtC w x.1) (hn : l.length ≤ 1000) (hne : l ≠ []) :
    Calls Tryz.prog 118 #[.pointer (some ⟨m, 0, none⟩), .pointer (some ⟨p, 0, none⟩)] w fun e w' => e = .returned (.bool (l.any fun x => decide (x.1 = p))) ∧ Kp [] w w' := by
  obtain ⟨v, hv, ho⟩ := hm
  have k1 : Kp [] w (w.alloc (.cells #[.pointer (some ⟨p, 0, none⟩)] 76)) := (Kp.refl _ _).alloc _
  have hc1 : (w.alloc (.cells #[.pointer (some ⟨p, 0, none⟩)] 76)).cell? ⟨w.heap.size, 0, none⟩ = some (.pointer (some ⟨p, 0, none⟩)) := by
    have := heap_alloc_new w (.cells #[.pointer (some ⟨p, 0, none⟩)] 76)
    unfold World.cell?; rw [this]; rfl
  have hsz : w.heap.size < (w.alloc (.cells #[.pointer (some ⟨p, 0, none⟩)] 76)).heap.size := by simp
  have hv1 := k1.heap hv (by simp)
  have m0 : (w.alloc (.cells #[.pointer (some ⟨p, 0, none⟩)] 76)).cell? ⟨m, 0, none⟩ = some v := by simp [World.cell?, hv1]
  have ho1 := k1.owns ho (by simp)
  have hb1 := hb.kp k1 (by simp)
  have hl1 : ∀ x ∈ l, AtC (w.alloc (.cells #[.pointer (some ⟨p, 0, none⟩)] 76)) x.1 := fun x hx => (hl x hx).kp k1 (by simp)
  obtain ⟨W, hW⟩ : ∃ W, w.alloc (.cells #[.pointer (some ⟨p, 0, none⟩)] 76) = W := ⟨_, rfl⟩
  rw [hW] at k1 hc1 hsz m0 ho1 hb1 hl1
  let α := { x : Nat × Nat // AtC W x.1 }
  haveI : Inhabited α := ⟨⟨(p, 0), hb1⟩⟩
  let zs : List α := l.pmap (fun x hx => ⟨x, hx⟩) hl1
  have hzl : zs.length = l.length := by simp [zs]
  have hany : zs.any (fun x => decide (x.1.1 = p)) = l.any fun x => decide (x.1 = p) := by
    exact any_pmap (fun x hx => (⟨x, hx⟩ : α)) (fun x : α => decide (x.1.1 = p)) (fun x => decide (x.1 = p)) (fun a h => rfl) l hl1
  have hpred : PredBelow Tryz.prog 157 #[.pointer (some ⟨w.heap.size, 0, none⟩)] (fun x : α => .agg (stA x.1).toArray) (fun x => decide (x.1.1 = p)) W := fun W' x hbl => by
    have kb := Kp.of_below [] hbl
    refine (takes1_any w.heap.size p x.1 W' (kb.cellv hc1 (by simp)) (x.2.kp kb (by simp)) (hb1.kp kb (by simp))).mono ?_
    rintro e w' ⟨rfl, rfl⟩
    exact ⟨rfl, hbl.alloc hbl.size _⟩
  have eg : ∀ args w, (callFunc 157 args).run Tryz.prog w = .ok (.enter 157 args) w := enters_of Tryz.func157 (by kernel_rfl) rfl
  rcases ho1.2 with ⟨_, h0⟩ | ⟨g, cap, cur, rfl, _, hg, hcap, hmax, hcur, htake⟩
  · exact absurd (List.length_eq_zero_iff.mp h0) hne
  have hcon := AnyQ.slices_ContainsFunc Tryz.laysH8 2 Tryz.isAgg185 Tryz.sizeOf185 (fun x : α => stA x.1) (fun _ => rfl) (fun x => decide (x.1.1 = p)) 157 #[.pointer (some ⟨w.heap.size, 0, none⟩)] eg g 0 l.length cap zs W hpred (by omega) (by omega) (heap_lt hg) (fun j hj i v hi => by
    have hjl : j < l.length := by omega
    have hz : zs[j]! = zs[j] := by simp [hj]
    have hzv : (zs[j]).1 = l[j] := by simp [zs]
    rw [hz, hzv] at hi
    have := stV_get l j hjl i v hi
    rw [← htake] at this
    have hlt : i < 2 := by simpa [stA] using (List.getElem?_eq_some_iff.mp hi).1
    rw [List.getElem?_take_of_lt (by omega)] at this
    simpa [World.cell?, hg] using this)
  change Calls Tryz.prog 156 _ _ _ at hcon
  rw [List.take_of_length_le (by omega), hany] at hcon
  have HH := hide hW
  generalize (l.any fun x => decide (x.1 = p)) = r at hcon ⊢
  clear hpred hany hzl hb1 ho1 hc1 hv hv1 ho hg htake
  clear_value zs
  clear zs this hl hl1 hb
  go_enter Tryz.func118, Tryz.ntmps118
  go_wp2_with (first | (simp only [hW]) | (go_at_call 156; refine hcon.mono ?_; rintro e w' ⟨rfl, hb'⟩))
  go_ret
  exact ⟨rfl, k1.next (Kp.of_below _ hb')⟩
end Go.Proofs.YtnffagpdnklnkaaGreatDoor.Pak
