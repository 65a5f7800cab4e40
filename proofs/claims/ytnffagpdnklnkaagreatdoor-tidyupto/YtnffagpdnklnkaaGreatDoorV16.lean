import Derived.Test.YtnffagpdnklnkaaGreatDoorV15
set_option linter.unusedVariables false
set_option linter.unusedSimpArgs false
set_option maxRecDepth 8000
namespace Go.Proofs.YtnffagpdnklnkaaGreatDoor.Pak
open Go.RowKit Go.Proofs.YtnffagpdnklnkaaGreatDoor Go.Proofs.YtnffagpdnklnkaaGreatDoor.Spl SiftM Go.Maps
theorem step_call {P : Program} {md : Region.Mode} {ops : Array Oper} {Q : Exit → Act → World → Prop} {S : World → Prop} {fuel : Nat} {listed : Array Bool} {a : Act} {w : World} {i : Nat} {o : Oper} {f : FuncId} {args : Array Value} {Post : Value → World → Prop}
    (hr : Region.ready md ops listed = [i]) (ho : ops[i]? = some o) (hw : Region.wanted o (yielded ops a.tmps) = true) (hex : (execOp a.eval o).run P w = .ok (.enter f args) w)
    (hc : Calls P f args w fun r w' => ∃ v, r = .returned v ∧ Post v w') (hS : ∀ v w', Post v w' → S w') (h : ∀ v w', Post v w' → wpAnyH P md ops Q S fuel (listed.setIfInBounds i true) (a.put o.dst v) w') : wpAnyH P md ops Q S (fuel + 1) listed a w := by
  refine wpAnyH_ready hr (by simp) (AllReadyH.cons ho (fun K hK => ?_) AllReadyH.nil)
  rw [if_pos hw]
  unfold Oper.wp
  rw [hex]
  refine hc.mono ?_
  rintro r w' ⟨v, rfl, hp⟩
  exact hK.out _ w' (hS v w' hp) (fun _ => h v w' hp)
theorem step_done {P : Program} {md : Region.Mode} {ops : Array Oper} {Q : Exit → Act → World → Prop} {S : World → Prop} {fuel : Nat} {listed : Array Bool} {a : Act} {w w' : World} {i : Nat} {o : Oper}
    (hr : Region.ready md ops listed = [i]) (ho : ops[i]? = some o) (hw : Region.wanted o (yielded ops a.tmps) = true) (hex : (execOp a.eval o).run P w = .ok .skip w')
    (hS : S w') (hfin : Region.ready md ops (listed.setIfInBounds i true) = []) (h : Q .normal (a.put o.dst undef) w') : wpAnyH P md ops Q S (fuel + 1) listed a w := by
  refine wpAnyH_ready hr (by simp) (AllReadyH.cons ho (fun K hK => ?_) AllReadyH.nil)
  rw [if_pos hw]
  unfold Oper.wp
  rw [hex]
  exact hK.out _ w' hS (fun _ => wpAnyH_done hfin h _)

def zeroE (ends : Bool) : St.Ex := ⟨ends, List.replicate 36 0⟩
theorem zeroE_false : (exC (zeroE false)).toArray = #[Value.bool false, .int .i64 0, .int .i64 0, .int .i64 0, .int .i64 0, .int .i64 0, .int .i64 0, .int .i64 0, .int .i64 0, .int .i64 0, .int .i64 0, .int .i64 0, .int .i64 0, .int .i64 0, .int .i64 0, .int .i64 0, .int .i64 0, .int .i64 0, .int .i64 0, .int .i64 0, .int .i64 0, .int .i64 0, .int .i64 0, .int .i64 0, .int .i64 0, .int .i64 0, .int .i64 0, .int .i64 0, .int .i64 0, .int .i64 0, .int .i64 0, .int .i64 0, .int .i64 0, .int .i64 0, .int .i64 0, .int .i64 0, .int .i64 0] := rfl
theorem zeroE_true : (exC (zeroE true)).toArray = #[Value.bool true, .int .i64 0, .int .i64 0, .int .i64 0, .int .i64 0, .int .i64 0, .int .i64 0, .int .i64 0, .int .i64 0, .int .i64 0, .int .i64 0, .int .i64 0, .int .i64 0, .int .i64 0, .int .i64 0, .int .i64 0, .int .i64 0, .int .i64 0, .int .i64 0, .int .i64 0, .int .i64 0, .int .i64 0, .int .i64 0, .int .i64 0, .int .i64 0, .int .i64 0, .int .i64 0, .int .i64 0, .int .i64 0, .int .i64 0, .int .i64 0, .int .i64 0, .int .i64 0, .int .i64 0, .int .i64 0, .int .i64 0, .int .i64 0] := rfl

/-- What is asked of words that are built. -/
structure Wds (L : List (List UInt8)) (p f : Nat) : Prop where
  len : ∀ t ∈ L, p ≤ t.length ∧ t.length < p + f ∧ t.length ≤ 1000
  small : ∀ t ∈ L, St.Small t
  srt : St.Srt (tails L p)
/-- The builder's work on these words. -/
def BehindOk (b B f : Nat) : Prop := ∀ (a : Option Addr) (n cap p : Nat) (L : List (List UInt8)) (kn : List St.Ex) (w : World), Tv w B a L → L.length = n → 1 ≤ n → n ≤ cap → n ≤ 10000 → Wds L p f → p ≤ 1000 → Bld w b B kn → kn.length + sz1 (tails L p) ≤ 400000 → B ≤ w.heap.size →
  Calls Tryz.prog 166 #[.pointer (some ⟨b, 0, none⟩), .slice a n cap, .int .i64 (p : Int)] w fun r w' => r = .returned (.int .i64 (((St.beh f (tails L p) kn).1 : Nat) : Int)) ∧ Bld w' b B (St.beh f (tails L p) kn).2 ∧ Below B w w' ∧ Kx w w'

theorem len_eq_head {t : List UInt8} {p : Nat} (hp : p ≤ t.length) : ((St.sw t).drop p).isEmpty = decide (t.length = p) := by
  rw [Bool.eq_iff_iff, List.isEmpty_iff, decide_eq_true_iff, List.drop_eq_nil_iff]
  have : (St.sw t).length = t.length := by simp [St.sw]
  rw [this]; omega
/-- The words behind the one that ends here. -/
theorem beh_open (f p : Nat) (L : List (List UInt8)) (kn : List St.Ex) (t0 : List UInt8) (h0 : 0 < L.length) (ht : L[0] = t0) (hL : Wds L p (f + 1)) :
    ∃ (ends : Bool) (L' : List (List UInt8)), ((t0.length = p ∧ ends = true ∧ L' = L.drop 1) ∨ (t0.length ≠ p ∧ ends = false ∧ L' = L)) ∧
      St.beh (f + 1) (tails L p) kn = St.stOf (St.grp (St.beh f) L'.length (tails L' p) (List.replicate 36 0) kn).2 ⟨ends, (St.grp (St.beh f) L'.length (tails L' p) (List.replicate 36 0) kn).1⟩ ∧
      (∀ t ∈ L', p < t.length ∧ t.length < p + (f + 1) ∧ t.length ≤ 1000) ∧ (∀ t ∈ L', St.Small t) ∧ St.Srt (tails L' p) ∧ sz0 (tails L' p) + 1 ≤ sz1 (tails L p) := by
  obtain ⟨t, L1, rfl⟩ : ∃ t L1, L = t :: L1 := by
    cases L with
    | nil => simp at h0
    | cons t L1 => exact ⟨t, L1, rfl⟩
  have htt : t = t0 := by simpa using ht
  subst htt
  have hl := hL.len t (by simp)
  have hhd : (tails (t :: L1) p) = (St.sw t).drop p :: tails L1 p := rfl
  have hs := hL.srt
  rw [hhd] at hs
  have hother : ∀ x ∈ L1, p < x.length := by
    intro x hx
    have h1 := srt_tail hs ((St.sw x).drop p) (List.mem_map.2 ⟨x, hx, rfl⟩)
    have h2 := hL.len x (by simp [hx])
    have h3 : (St.sw x).length = x.length := by simp [St.sw]
    rcases Nat.lt_or_ge p x.length with h | h
    · exact h
    · exact absurd (List.drop_eq_nil_iff.2 (by omega)) h1
  have hb : ∀ D' ends, (bif ends then tails L1 p else (St.sw t).drop p :: tails L1 p) = D' → ((St.sw t).drop p).isEmpty = ends → St.beh (f + 1) (tails (t :: L1) p) kn = St.stOf (St.grp (St.beh f) D'.length D' (List.replicate 36 0) kn).2 ⟨ends, (St.grp (St.beh f) D'.length D' (List.replicate 36 0) kn).1⟩ := by
    intro D' ends e1 e2
    rw [hhd]
    unfold St.beh
    simp only [List.headD_cons, List.tail_cons, e2, e1]
  by_cases he : t.length = p
  · refine ⟨true, L1, .inl ⟨he, rfl, rfl⟩, ?_, fun x hx => ⟨hother x hx, (hL.len x (by simp [hx])).2⟩, fun x hx => hL.small x (by simp [hx]), (List.pairwise_cons.1 hs).2, ?_⟩
    · have := hb _ true rfl (by rw [len_eq_head hl.1]; exact decide_eq_true he)
      simp only [cond_true] at this
      rw [this, tails_len]
    · rw [hhd]; simp [sz1, sz0]; omega
  · refine ⟨false, t :: L1, .inr ⟨he, rfl, rfl⟩, ?_, fun x hx => ?_, hL.small, hL.srt, ?_⟩
    · have := hb _ false rfl (by rw [len_eq_head hl.1]; exact decide_eq_false he)
      simp only [cond_false] at this
      rw [this, ← hhd, tails_len]
    · refine ⟨?_, (hL.len x hx).2⟩
      rcases List.mem_cons.1 hx with rfl | hx
      · omega
      · exact hother x hx
    · rw [hhd]; simp [sz1]

/-- The loop over the groups. -/
structure BLoop (b B f p : Nat) (ends : Bool) (X : Nat) (w : World) (fin0 : List Nat × List St.Ex) (R : List (List UInt8)) (a' : Option Addr) (cap' m : Nat) (to : List Nat) (kn' : List St.Ex) (wr : World) : Prop where
  len : R.length = m
  cap : m ≤ cap'
  view : Tv wr B a' R
  eq : ∃ gg, m ≤ gg ∧ St.grp (St.beh f) gg (tails R p) to kn' = fin0
  ok : ∀ t ∈ R, p < t.length ∧ t.length < p + (f + 1) ∧ t.length ≤ 1000
  small : ∀ t ∈ R, St.Small t
  srt : St.Srt (tails R p)
  bld : Bld wr b B kn'
  out : wr.heap[X]? = some (.cells (exC ⟨ends, to⟩).toArray 267 (0, 0))
  to36 : to.length = 36
  tole : ∀ x ∈ to, x ≤ kn'.length
  room : kn'.length + sz0 (tails R p) ≤ 399999
  few : m ≤ 10000
  bel : Below B w wr
  kx : Kx w wr
theorem Tv.kp0 {w w' : World} {B : Nat} {a : Option Addr} {L : List (List UInt8)} (h : Tv w B a L) (k : Kp [] w w') : Tv w' B a L := by
  rcases h with h | ⟨g, off, e, hg, hc⟩
  · exact .inl h
  · exact .inr ⟨g, off, e, hg, fun i hi => k.cellv (hc i hi) (by simp)⟩
theorem Tv.drop1 {w : World} {B g off : Nat} {L : List (List UInt8)} (h : Tv w B (some ⟨g, off, none⟩) L) (c : Nat) : Tv w B (some ⟨g, off + c, none⟩) (L.drop c) := by
  rcases h with h | ⟨g', off', e, hg, hc⟩
  · exact .inl (by rw [h]; simp)
  · cases e
    exact .inr ⟨g, off + c, rfl, hg, fun i hi => by
      have hi' : c + i < L.length := by simp at hi; omega
      have := hc (c + i) hi'
      rw [List.getElem_drop]
      rw [← Nat.add_assoc] at this
      exact this⟩

theorem exC_at (w : World) (X : Nat) (e : St.Ex) (j : Nat) (h : w.heap[X]? = some (.cells (exC e).toArray 267 (0, 0))) (hj : j < e.to.length) : w.cell? ⟨X, 1 + j, none⟩ = some (.int .i64 ((e.to.getD j 0 : Nat) : Int)) ∧ w.frozen? ⟨X, 1 + j, none⟩ = false := by
  constructor
  · rw [cell_of_row w X _ _ _ _ h, Nat.add_comm]
    simp [exC, hj]
  · simp [World.frozen?, h]
theorem exC_set (ends : Bool) (to : List Nat) (j v : Nat) : (exC ⟨ends, to⟩).toArray.setIfInBounds (1 + j) (.int .i64 (v : Int)) = (exC ⟨ends, to.set j v⟩).toArray := by
  rw [Nat.add_comm, List.setIfInBounds_toArray]
  congr 1
  simp [exC, List.map_set]

set_option maxHeartbeats 2000000 in
theorem behind_step (b B f : Nat) (hf : BehindOk b B f) : BehindOk b B (f + 1) := by
  intro a n cap p L kn w hv hn h1 hcap hb hL hp hB hkn hBw
  obtain ⟨g, off, rfl, hg, hc⟩ : ∃ g off, a = some ⟨g, off, none⟩ ∧ g < B ∧ ∀ i (h : i < L.length), w.cell? ⟨g, off + i, none⟩ = some (.string ⟨L[i].toArray⟩) := by
    rcases hv with h | h
    · rw [h] at hn; simp at hn; omega
    · exact h
  have hL0 : 0 < L.length := by rw [hn]; omega
  have hc0 := hc 0 hL0
  have hl0 := hL.len L[0] (List.getElem_mem hL0)
  obtain ⟨t0, ht0⟩ : ∃ t0, L[0] = t0 := ⟨_, rfl⟩
  rw [ht0] at hc0 hl0
  rw [Nat.add_zero] at hc0
  have hgl : g < w.heap.size := by omega
  have HC := hide hc
  have HN := hide hn
  have HL := hide hL
  have HB := hide hB
  have HV := hide hv
  have HT0 := hide ht0
  have HF := hide hf
  have HKN := hide hkn
  obtain ⟨ends, L', hcs, hfe, hLl, hLs, hLr, hsz⟩ := beh_open f p L kn t0 hL0 HT0.out HL.out
  obtain ⟨fin, hfin⟩ : ∃ fin, St.beh (f + 1) (tails L p) kn = fin := ⟨_, rfl⟩
  rw [hfin]
  rw [hfin] at hfe
  have HFIN := hide hfe
  have HLl := hide hLl
  have HLs := hide hLs
  have HLr := hide hLr
  obtain ⟨W, hW⟩ : ∃ W, w.alloc (.cells (exC (zeroE ends)).toArray 267) = W := ⟨_, rfl⟩
  have k0 : Kp [] w W := by rw [← hW]; exact (Kp.refl _ _).alloc _
  have HX : Hid (W.heap[w.heap.size]? = some (.cells (exC (zeroE ends)).toArray 267 (0, 0))) := by show _ = _; rw [← hW]; exact heap_alloc_new w _
  have hkn0 := HKN.out
  clear hc hn hL hB hv ht0 hf hkn hfin hfe hLl hLs hLr
  have hx1 : (1 : Int) ≤ (n : Int) := by omega
  have hx0 : (0 : Int) < (n : Int) := by omega
  have hne : t0.length ≠ p → ((t0.length : Int) == (p : Int)) = false := fun h => by rw [beq_eq_false_iff_ne]; omega
  obtain ⟨fin0, hfin0⟩ : ∃ fin0, St.grp (St.beh f) L'.length (tails L' p) (List.replicate 36 0) kn = fin0 := ⟨_, rfl⟩
  rw [hfin0] at HFIN
  have hstart : Hid (∀ a' cap' m, Tv W B a' L' → L'.length = m → m ≤ cap' → m ≤ n → BLoop b B f p ends w.heap.size w fin0 L' a' cap' m (List.replicate 36 0) kn W) := by
    intro a' cap' m hv hl hc hmn
    refine ⟨hl, hc, hv, ⟨L'.length, by omega, hfin0⟩, HLl.out, HLs.out, HLr.out, ?_, HX.out, by simp, fun x hx => ?_, by omega, by omega, k0.below hBw (by simp), kx_kp k0 (by simp)⟩
    · obtain ⟨M, M2, aa, ca, st, A, hbl⟩ := HB.out
      exact ⟨M, M2, aa, ca, st, A, hbl.kp0 k0⟩
    · rw [List.eq_of_mem_replicate hx]; omega
  have hcW := k0.cellv hc0 (by simp)
  have hvW := hide (HV.out.kp0 k0)
  have hzW := k0.size
  clear hfin0 HX HB HV HKN
  rcases hcs with ⟨hends, rfl, rfl⟩ | ⟨hends, rfl, rfl⟩
  · rw [zeroE_true] at hW
    have hdl : Hid ((L.drop 1).length = n - 1) := by show _ = _; rw [List.length_drop, HN.out]
    have hs1 := hide (fun h : n = 1 => hstart.out (some ⟨g, off, none⟩) 0 (n - 1) (.inl (List.drop_eq_nil_iff.2 (by rw [HN.out]; omega))) hdl.out (by omega) (by omega))
    have hs2 := hide (hstart.out (some ⟨g, off + 1, none⟩) (cap - 1) (n - 1) (hvW.out.drop1 1) hdl.out (by omega) (by omega))
    go_enter Tryz.func166, Tryz.ntmps166
    go_wp2_with fail
    all_goals
      clear hc0 hcW hW hne
      go_loopw [1] (fun tv wr => ∃ (R : List (List UInt8)) (a' : Option Addr) (cap' m : Nat) (to : List Nat) (kn' : List St.Ex), tv = .slice a' m cap' ∧ Hid (BLoop b B f p true w.heap.size w fin0 R a' cap' m to kn' wr)) (fun tv _ => lenV tv)
      case atStart => first | exact ⟨_, _, _, _, _, _, rfl, hide (hs1.out (by omega))⟩ | exact ⟨_, _, _, _, _, _, rfl, hs2⟩
      case round =>
        clear hs1 hs2 hstart hvW HC HT0 HL
        obtain ⟨R, a', cap', m, to, kn', rfl, hI⟩ := hrel
        have hml := hI.out.len
        have hmf := hI.out.few
        have hcp := hI.out.cap
        have hzr := hI.out.bel.size
        by_cases hm : 0 < m
        · obtain ⟨g', off', rfl, hg', hc'⟩ : ∃ g off, a' = some ⟨g, off, none⟩ ∧ g < B ∧ ∀ i (h : i < R.length), wr.cell? ⟨g, off + i, none⟩ = some (.string ⟨R[i].toArray⟩) := by
            rcases hI.out.view with h | h
            · rw [h] at hml; simp at hml; omega
            · exact h
          have hR0 : 0 < R.length := by omega
          have hc0 := hc' 0 hR0
          have hl0 := hI.out.ok R[0] (List.getElem_mem hR0)
          obtain ⟨t, ht⟩ : ∃ t, R[0] = t := ⟨_, rfl⟩
          rw [ht] at hc0 hl0
          rw [Nat.add_zero] at hc0
          have hsame := same_any B m cap' p (some ⟨g', off', none⟩) R wr hI.out.view hml (by omega) (by omega) (fun t ht => ⟨(hI.out.ok t ht).1, (hI.out.ok t ht).2.2⟩)
          have hm0 : (0 : Int) < (m : Int) := by omega
          have hcs := sameB_pos R p (by intro e; rw [e] at hR0; simp at hR0)
          obtain ⟨c, hcE⟩ : ∃ c, sameB R p = c := ⟨_, rfl⟩
          rw [hcE] at hsame hcs
          have HSA := hide hsame
          have HCE := hide hcE
          have HT := hide ht
          clear hsame hcE ht hc'
          go_wp2_with fail
          refine HSA.out.mono ?_
          rintro r w1 ⟨rfl, k1⟩
          have hc1 := k1.cellv hc0 (by simp)
          have hpt : p < t.length := hl0.1
          have hpi : (p : Int) < (t.length : Int) := by omega
          have hp0 : (0 : Int) ≤ (p : Int) := by omega
          have hcc : (c : Int) ≤ (cap' : Int) := by omega
          have hc00 : (0 : Int) ≤ (c : Int) := by omega
          have hwr : IntKind.i64.wrap ((p : Int) + 1) = (p : Int) + 1 := IntWalk.i64_in _ ⟨by omega, by omega⟩
          have hbyte := byte_at t p hpt
          obtain ⟨cb, hcb⟩ : ∃ cb, t.getD p 0 = cb := ⟨_, rfl⟩
          rw [hcb] at hbyte
          have HCB := hide hcb
          clear HSA hcb
          go_wp2_with fail
          refine region_any_world (S := fun w' => w'.cell? ⟨g', off', none⟩ = some (.string ⟨t.toArray⟩)) (by kernel_rfl) fun W5 k5 hh5 => ?_
          have hh : W5.cell? ⟨g', off', none⟩ = some (.string ⟨t.toArray⟩) := k5.cellv hc1 (by simp)
          refine anyH_tk 0 24 (.slice (some ⟨g', off', none⟩) m cap') rfl (Or.inl ⟨by rfl, fun w' hS => by go_simp⟩) hh ?_
          simp only [Act.put, List.setIfInBounds_toArray, List.set_cons_zero, List.set_cons_succ]
          refine anyH_tk 1 25 (.pointer (some ⟨g', off', none⟩)) rfl (Or.inl ⟨by rfl, fun w' hS => by go_simp⟩) hh ?_
          simp only [Act.put, List.setIfInBounds_toArray, List.set_cons_zero, List.set_cons_succ]
          refine anyH_tk 2 26 (.string ⟨t.toArray⟩) rfl (Or.inl ⟨by rfl, fun w' hS => by have hS' : w'.cell? ⟨g', off', none⟩ = some (.string ⟨t.toArray⟩) := hS; go_simp⟩) hh ?_
          simp only [Act.put, List.setIfInBounds_toArray, List.set_cons_zero, List.set_cons_succ]
          refine anyH_tk 3 27 (.int .i64 (p : Int)) rfl (Or.inl ⟨by rfl, fun w' hS => by go_simp⟩) hh ?_
          simp only [Act.put, List.setIfInBounds_toArray, List.set_cons_zero, List.set_cons_succ]
          refine anyH_tk 4 28 (.int .u8 (cb.toNat : Int)) rfl (Or.inl ⟨by rfl, fun w' hS => by go_simp⟩) hh ?_
          simp only [Act.put, List.setIfInBounds_toArray, List.set_cons_zero, List.set_cons_succ]
          refine anyH_tk 6 30 (.pointer (some ⟨b, 0, none⟩)) rfl (Or.inl ⟨by rfl, fun w' hS => by go_simp⟩) hh ?_
          simp only [Act.put, List.setIfInBounds_toArray, List.set_cons_zero, List.set_cons_succ]
          refine anyH_tk 7 31 (.slice (some ⟨g', off', none⟩) m cap') rfl (Or.inl ⟨by rfl, fun w' hS => by go_simp⟩) hh ?_
          simp only [Act.put, List.setIfInBounds_toArray, List.set_cons_zero, List.set_cons_succ]
          refine anyH_tk 8 32 (.int .i64 (c : Int)) rfl (Or.inl ⟨by rfl, fun w' hS => by go_simp⟩) hh ?_
          simp only [Act.put, List.setIfInBounds_toArray, List.set_cons_zero, List.set_cons_succ]
          refine anyH_tk 9 33 (.slice (some ⟨g', off', none⟩) c cap') rfl (Or.inl ⟨by rfl, fun w' hS => by go_simp⟩) hh ?_
          simp only [Act.put, List.setIfInBounds_toArray, List.set_cons_zero, List.set_cons_succ]
          refine anyH_tk 10 34 (.int .i64 (p : Int)) rfl (Or.inl ⟨by rfl, fun w' hS => by go_simp⟩) hh ?_
          simp only [Act.put, List.setIfInBounds_toArray, List.set_cons_zero, List.set_cons_succ]
          refine anyH_tk 11 35 (.int .i64 ((p : Int) + 1)) rfl (Or.inl ⟨by rfl, fun w' hS => by go_simp⟩) hh ?_
          simp only [Act.put, List.setIfInBounds_toArray, List.set_cons_zero, List.set_cons_succ]
          refine anyH_tk 13 37 (.pointer (some ⟨w.heap.size, 1, none⟩)) rfl (Or.inl ⟨by rfl, fun w' hS => by go_simp⟩) hh ?_
          simp only [Act.put, List.setIfInBounds_toArray, List.set_cons_zero, List.set_cons_succ]
          have hsm : St.Sm cb := by
            have := hI.out.small R[0] (List.getElem_mem hR0)
            rw [HT.out] at this
            rw [← HCB.out, List.getD_eq_getElem?_getD, List.getElem?_eq_getElem hpt]
            exact this _ (List.getElem_mem hpt)
          obtain ⟨j, hj⟩ : ∃ j, St.slot cb = j := ⟨_, rfl⟩
          have hj36 : j < 36 := by rw [← hj]; exact St.slot_lt hsm
          refine step_call (i := 5) (o := { dst := some 29, op := _, type := _, pos := _, after := _, guard := _ }) (f := 196) (args := #[.int .u8 (cb.toNat : Int)]) (Post := fun v w' => v = .int .i64 (j : Int) ∧ w' = W5) (by kernel_rfl) rfl (by rfl) (by go_simp) ?_ (fun v w' h => by rw [h.2]; exact hh) ?_
          · refine (slot_any cb W5 hsm).mono ?_
            rintro r w' ⟨rfl, rfl⟩
            exact ⟨_, rfl, by rw [hj], rfl⟩
          rintro v w' ⟨rfl, rfl⟩
          simp only [Act.put, List.setIfInBounds_toArray, List.set_cons_zero, List.set_cons_succ]
          have hst := same_tails R p (fun x hx => ⟨(hI.out.ok x hx).1, hI.out.small x hx⟩)
          rw [HCE.out] at hst
          have hneT : ∀ d ∈ tails R p, d ≠ [] := by
            intro d hd e
            obtain ⟨x, hx, rfl⟩ := List.mem_map.1 hd
            have h1 := (hI.out.ok x hx).1
            have h2 : (St.sw x).length = x.length := by simp [St.sw]
            have h3 := List.drop_eq_nil_iff.1 e
            omega
          have htt : ((tails R p).take c).map List.tail = tails (R.take c) (p + 1) := tails_take R p c
          have hk15 : Kp [] wr w' := k1.next k5
          have hcall := HF.out (some ⟨g', off', none⟩) c cap' (p + 1) (R.take c) kn' w' (by
              rcases (hI.out.view.kp0 hk15) with h | ⟨g2, o2, e2, hg2, hc2⟩
              · exact .inl (by rw [h]; simp)
              · exact .inr ⟨g2, o2, e2, hg2, fun i hi => by
                  have hi' : i < R.length := by simp at hi; omega
                  rw [List.getElem_take]; exact hc2 i hi'⟩) (by rw [List.length_take]; omega) hcs.1 (by omega) (by omega)
            ⟨fun x hx => by have := hI.out.ok x (List.mem_of_mem_take hx); omega, fun x hx => hI.out.small x (List.mem_of_mem_take hx), by
              rw [← htt, ← hst]; exact srt_group _ hI.out.srt hneT⟩ (by omega) (by
              obtain ⟨M, M2, aa, ca, st, A, hbl⟩ := hI.out.bld
              exact ⟨M, M2, aa, ca, st, A, hbl.kp0 hk15⟩) (by
              rw [← htt, sz1_tails _ fun d hd => hneT d (List.mem_of_mem_take hd)]
              have h1 := sz0_split (tails R p) c
              have h2 := hI.out.room
              omega) (by have := hk15.size; omega)
          rw [show ((p + 1 : Nat) : Int) = (p : Int) + 1 by omega] at hcall
          obtain ⟨r, hr⟩ : ∃ r, St.beh f (tails (R.take c) (p + 1)) kn' = r := ⟨_, rfl⟩
          rw [hr] at hcall
          have HR := hide hr
          refine step_call (i := 12) (o := { dst := some 36, op := _, type := _, pos := _, after := _, guard := _ }) (f := 166) (args := #[.pointer (some ⟨b, 0, none⟩), .slice (some ⟨g', off', none⟩) c cap', .int .i64 ((p : Int) + 1)]) (Post := fun v w6 => v = .int .i64 ((r.1 : Nat) : Int) ∧ Bld w6 b B r.2 ∧ Below B w' w6 ∧ Kx w' w6) (by kernel_rfl) rfl (by rfl) (by go_simp) ?_ (fun v w6 h => by rw [h.2.2.1.cell (p := ⟨g', off', none⟩) hg']; exact hh) ?_
          · refine hcall.mono ?_
            rintro r2 w6 ⟨rfl, h1, h2, h3⟩
            exact ⟨_, rfl, rfl, h1, h2, h3⟩
          rintro v w6 ⟨rfl, hbl6, hbe6, hkx6⟩
          simp only [Act.put, List.setIfInBounds_toArray, List.set_cons_zero, List.set_cons_succ]
          have hh6 : w6.cell? ⟨g', off', none⟩ = some (.string ⟨t.toArray⟩) := by rw [hbe6.cell (p := ⟨g', off', none⟩) hg']; exact hh
          have hX6 := hkx6 _ _ _ (hk15.heap hI.out.out (by simp))
          have hcx := exC_at w6 w.heap.size ⟨true, to⟩ j hX6 (by rw [show (⟨true, to⟩ : St.Ex).to = to from rfl, hI.out.to36]; exact hj36)
          have i0 : (0 : Int) ≤ (j : Int) := by omega
          have i36 : (j : Int) < 36 := by omega
          refine anyH_tk 14 38 (.pointer (some ⟨w.heap.size, 1 + j, none⟩)) rfl (Or.inl ⟨by rfl, fun w' hS => by go_simp⟩) hh6 ?_
          simp only [Act.put, List.setIfInBounds_toArray, List.set_cons_zero, List.set_cons_succ]
          obtain ⟨hcx1, hcx2⟩ := hcx
          refine step_done (i := 15) (o := { dst := none, op := _, type := _, pos := _, after := _, guard := _ }) (w' := w6.setCell ⟨w.heap.size, 1 + j, none⟩ (.int .i64 ((r.1 : Nat) : Int))) (by kernel_rfl) rfl (by rfl) (by go_simp) ?_ (by kernel_rfl) ?_
          · exact ((Kp.refl [w.heap.size] w6).setCell (.inl (by simp)) _).cellv hh6 (by simp; omega)
          have hj2 : St.hd ((tails R p).headD []) = j := by
            have hR : tails R p = (St.sw R[0]).drop p :: tails (R.drop 1) p := by
              cases R with
              | nil => simp at hR0
              | cons x R => rfl
            rw [hR, List.headD_cons, HT.out, hd_drop t p hpt, HCB.out, hj]
          obtain ⟨W7, hW7⟩ : ∃ W7, w6.setCell ⟨w.heap.size, 1 + j, none⟩ (.int .i64 ((r.1 : Nat) : Int)) = W7 := ⟨_, rfl⟩
          rw [hW7]
          have k7 : Kp [w.heap.size] w6 W7 := by rw [← hW7]; exact (Kp.refl _ _).setCell (.inl (by simp)) _
          have hX7 : W7.heap[w.heap.size]? = some (.cells (exC ⟨true, to.set j r.1⟩).toArray 267 (0, 0)) := by
            rw [← hW7, heap_setCell_same w6 w.heap.size (1 + j) _ 267 _ hX6, exC_set]
          have hlt := beh_little f (tails (R.take c) (p + 1)) kn' (by
            intro e
            have := congrArg List.length e
            rw [tails_len, List.length_take] at this
            have h0 : ([] : List St.Wd).length = 0 := rfl
            omega) (by rw [← htt, ← hst]; exact srt_group _ hI.out.srt hneT)
          rw [HR.out, ← htt, sz1_tails _ fun d hd => hneT d (List.mem_of_mem_take hd)] at hlt
          have hspl := sz0_split (tails R p) c
          rw [tails_drop] at hspl
          have hw6 : w.heap.size < w6.heap.size := heap_lt hX6
          have hnext : ∀ a2 cap2, Tv W7 B a2 (R.drop c) → m - c ≤ cap2 → BLoop b B f p true w.heap.size w fin0 (R.drop c) a2 cap2 (m - c) (to.set j r.1) r.2 W7 := by
            intro a2 cap2 hv2 hcap2
            refine ⟨by rw [List.length_drop, hml], hcap2, hv2, ?_, fun x hx => hI.out.ok x (List.mem_of_mem_drop hx), fun x hx => hI.out.small x (List.mem_of_mem_drop hx), ?_, ?_, hX7, by rw [List.length_set]; exact hI.out.to36, ?_, ?_, by omega, ?_, ?_⟩
            · obtain ⟨gg, hgg, heq⟩ := hI.out.eq
              cases gg with
              | zero => omega
              | succ gg =>
                refine ⟨gg, by omega, ?_⟩
                rw [← heq]
                conv => rhs; unfold St.grp
                rw [if_neg (by
                  intro e
                  have := congrArg List.length e
                  rw [tails_len] at this
                  have h0 : ([] : List St.Wd).length = 0 := rfl
                  omega)]
                simp only [hst, hj2, htt, HR.out, tails_drop]
            · have := List.Pairwise.sublist (List.drop_sublist c (tails R p)) hI.out.srt
              rw [tails_drop] at this
              exact this
            · obtain ⟨M, M2, aa, ca, st, A, hbl⟩ := hbl6
              have hXb : w.heap.size ≠ b := by intro e; rw [e, hbl.heap] at hX6; simp at hX6
              have hXM : w.heap.size ≠ M := by
                intro e; obtain ⟨es, cl, h⟩ := hbl.known.block
                rw [e, h] at hX6; simp at hX6
              have hXM2 : w.heap.size ≠ M2 := by
                intro e; obtain ⟨es, cl, h⟩ := hbl.lead.block
                rw [e, h] at hX6; simp at hX6
              exact ⟨M, M2, aa, ca, st, A, k7.heap hbl.heap (by simpa using hXb.symm), hbl.known.kp k7 (by simpa using hXM.symm), hbl.lead.kp k7 (by simpa using hXM2.symm), k7.owns hbl.about (fun x hx hm => by simp at hm; subst hm; exact owns_ne hbl.about hX6 (by decide) hx), hbl.len, hbl.ne, hbl.hb, hbl.hM, hbl.hM2, hbl.ok⟩
            · intro x hx
              rcases List.mem_or_eq_of_mem_set hx with hx | rfl
              · have := hI.out.tole x hx; omega
              · exact hlt.1
            · have := hI.out.room; omega
            · have h1 := (hI.out.bel.trans (hk15.below (by omega) (by simp))).trans hbe6
              exact h1.trans (k7.below (by omega) (by simp; omega))
            · have hk6 := (hI.out.kx.trans (kx_kp hk15 (by simp))).trans hkx6
              intro k cs fr hk
              have hlk := heap_lt hk
              exact k7.heap (hk6 k cs fr hk) (by simp; omega)
          have hv7 : Tv W7 B (some ⟨g', off', none⟩) R := by
            have h1 := ((hI.out.view.kp0 hk15).below hbe6)
            exact h1.below (k7.below (by omega) (by simp; omega))
          have hn1 := hide (fun h : m - c = 0 => hnext (some ⟨g', off', none⟩) (cap' - c) (.inl (List.drop_eq_nil_iff.2 (by omega))) (by omega))
          have hn2 := hide (hnext (some ⟨g', off' + c, none⟩) (cap' - c) (hv7.drop1 c) (by omega))
          clear hnext hv7 hX7 hX6 hbl6 hh6 hcx1 hcx2 hh hc1 hc0
          simp only [Act.put]
          go_wp2_with fail
          refine ⟨⟨R.drop c, _, _, _, to.set j r.1, r.2, rfl, ?_⟩, by simp [lenV]; omega⟩
          by_cases e : cap' = c
          · rw [if_pos e]; exact hn1.out (by omega)
          · rw [if_neg e]; exact hn2.out
        · have hm00 : m = 0 := by omega
          subst hm00
          have hRn : R = [] := List.length_eq_zero_iff.1 hml
          subst hRn
          obtain ⟨gg, hgg, heq⟩ := hI.out.eq
          have hf0 : fin0 = (to, kn') := by
            rw [← heq]
            cases gg with
            | zero => rfl
            | succ gg => simp [St.grp, tails]
          subst hf0
          have hF := HFIN.out
          simp only at hF
          have hokE : OkE ⟨true, to⟩ := ⟨hI.out.to36, fun x hx => by have h1 := hI.out.tole x hx; have h2 := hI.out.room; omega⟩
          have hsto := fun (u : World) (k : Kp [] wr u) => stateOf_any b B kn' ⟨true, to⟩ u (by
              obtain ⟨M, M2, aa, ca, st, A, hbl⟩ := hI.out.bld
              exact ⟨M, M2, aa, ca, st, A, hbl.kp0 k⟩) hokE hI.out.tole (by have := hI.out.room; omega) (by have := k.size; omega)
          rw [← hF] at hsto
          have hszE : Hid ((Tryz.prog.info? 267).map (·.size) = some (exC ⟨true, to⟩).length) := by show _ = _; rw [info429]; simp [exC, hokE.1]
          have hrg : Hid (∀ u : World, Kp [] wr u → u.rangeAt w.heap.size 0 (exC ⟨true, to⟩)) := fun u k j v hv => by
            rw [cell_of_row u _ _ _ _ _ (k.heap hI.out.out (by simp))]
            simpa using hv
          have HST := hide hsto
          have hbel := hide hI.out.bel
          have hkx := hide hI.out.kx
          have hrgw := hrg.out wr (Kp.refl _ _)
          have HRG := hide hrgw
          have hsw := HST.out wr (Kp.refl _ _)
          have HSW := hide hsw
          clear hsto hF heq hI hrg HST hrgw hsw
          go_wp2_with (first
            | (refine wpList_load_mid rfl 267 _ rfl w.heap.size 0 rfl (exC ⟨true, to⟩) _ HRG.out Tryz.underlying267 rfl hszE.out ?_)
            | fail)
          refine HSW.out.mono ?_
          rintro r w7 ⟨rfl, h1, h2, h3⟩
          go_wp2_with fail
          go_ret
          exact ⟨rfl, h1, hbel.out.trans h2, hkx.out.trans h3⟩
  · rw [zeroE_false] at hW
    have hne2 := hne hends
    have hs3 := hide (hstart.out (some ⟨g, off, none⟩) cap n hvW.out HN.out hcap (by omega))
    go_enter Tryz.func166, Tryz.ntmps166
    go_wp2_with fail
    clear hc0 hcW hW hne hne2
    go_loopw [1] (fun tv wr => ∃ (R : List (List UInt8)) (a' : Option Addr) (cap' m : Nat) (to : List Nat) (kn' : List St.Ex), tv = .slice a' m cap' ∧ Hid (BLoop b B f p false w.heap.size w fin0 R a' cap' m to kn' wr)) (fun tv _ => lenV tv)
    case atStart => exact ⟨_, _, _, _, _, _, rfl, hs3⟩
    case round =>
      clear hs3 hstart hvW HC HT0 HL
      obtain ⟨R, a', cap', m, to, kn', rfl, hI⟩ := hrel
      have hml := hI.out.len
      have hmf := hI.out.few
      have hcp := hI.out.cap
      have hzr := hI.out.bel.size
      by_cases hm : 0 < m
      · obtain ⟨g', off', rfl, hg', hc'⟩ : ∃ g off, a' = some ⟨g, off, none⟩ ∧ g < B ∧ ∀ i (h : i < R.length), wr.cell? ⟨g, off + i, none⟩ = some (.string ⟨R[i].toArray⟩) := by
          rcases hI.out.view with h | h
          · rw [h] at hml; simp at hml; omega
          · exact h
        have hR0 : 0 < R.length := by omega
        have hc0 := hc' 0 hR0
        have hl0 := hI.out.ok R[0] (List.getElem_mem hR0)
        obtain ⟨t, ht⟩ : ∃ t, R[0] = t := ⟨_, rfl⟩
        rw [ht] at hc0 hl0
        rw [Nat.add_zero] at hc0
        have hsame := same_any B m cap' p (some ⟨g', off', none⟩) R wr hI.out.view hml (by omega) (by omega) (fun t ht => ⟨(hI.out.ok t ht).1, (hI.out.ok t ht).2.2⟩)
        have hm0 : (0 : Int) < (m : Int) := by omega
        have hcs := sameB_pos R p (by intro e; rw [e] at hR0; simp at hR0)
        obtain ⟨c, hcE⟩ : ∃ c, sameB R p = c := ⟨_, rfl⟩
        rw [hcE] at hsame hcs
        have HSA := hide hsame
        have HCE := hide hcE
        have HT := hide ht
        clear hsame hcE ht hc'
        go_wp2_with fail
        refine HSA.out.mono ?_
        rintro r w1 ⟨rfl, k1⟩
        have hc1 := k1.cellv hc0 (by simp)
        have hpt : p < t.length := hl0.1
        have hpi : (p : Int) < (t.length : Int) := by omega
        have hp0 : (0 : Int) ≤ (p : Int) := by omega
        have hcc : (c : Int) ≤ (cap' : Int) := by omega
        have hc00 : (0 : Int) ≤ (c : Int) := by omega
        have hwr : IntKind.i64.wrap ((p : Int) + 1) = (p : Int) + 1 := IntWalk.i64_in _ ⟨by omega, by omega⟩
        have hbyte := byte_at t p hpt
        obtain ⟨cb, hcb⟩ : ∃ cb, t.getD p 0 = cb := ⟨_, rfl⟩
        rw [hcb] at hbyte
        have HCB := hide hcb
        clear HSA hcb
        go_wp2_with fail
        refine region_any_world (S := fun w' => w'.cell? ⟨g', off', none⟩ = some (.string ⟨t.toArray⟩)) (by kernel_rfl) fun W5 k5 hh5 => ?_
        have hh : W5.cell? ⟨g', off', none⟩ = some (.string ⟨t.toArray⟩) := k5.cellv hc1 (by simp)
        refine anyH_tk 0 24 (.slice (some ⟨g', off', none⟩) m cap') rfl (Or.inl ⟨by rfl, fun w' hS => by go_simp⟩) hh ?_
        simp only [Act.put, List.setIfInBounds_toArray, List.set_cons_zero, List.set_cons_succ]
        refine anyH_tk 1 25 (.pointer (some ⟨g', off', none⟩)) rfl (Or.inl ⟨by rfl, fun w' hS => by go_simp⟩) hh ?_
        simp only [Act.put, List.setIfInBounds_toArray, List.set_cons_zero, List.set_cons_succ]
        refine anyH_tk 2 26 (.string ⟨t.toArray⟩) rfl (Or.inl ⟨by rfl, fun w' hS => by have hS' : w'.cell? ⟨g', off', none⟩ = some (.string ⟨t.toArray⟩) := hS; go_simp⟩) hh ?_
        simp only [Act.put, List.setIfInBounds_toArray, List.set_cons_zero, List.set_cons_succ]
        refine anyH_tk 3 27 (.int .i64 (p : Int)) rfl (Or.inl ⟨by rfl, fun w' hS => by go_simp⟩) hh ?_
        simp only [Act.put, List.setIfInBounds_toArray, List.set_cons_zero, List.set_cons_succ]
        refine anyH_tk 4 28 (.int .u8 (cb.toNat : Int)) rfl (Or.inl ⟨by rfl, fun w' hS => by go_simp⟩) hh ?_
        simp only [Act.put, List.setIfInBounds_toArray, List.set_cons_zero, List.set_cons_succ]
        refine anyH_tk 6 30 (.pointer (some ⟨b, 0, none⟩)) rfl (Or.inl ⟨by rfl, fun w' hS => by go_simp⟩) hh ?_
        simp only [Act.put, List.setIfInBounds_toArray, List.set_cons_zero, List.set_cons_succ]
        refine anyH_tk 7 31 (.slice (some ⟨g', off', none⟩) m cap') rfl (Or.inl ⟨by rfl, fun w' hS => by go_simp⟩) hh ?_
        simp only [Act.put, List.setIfInBounds_toArray, List.set_cons_zero, List.set_cons_succ]
        refine anyH_tk 8 32 (.int .i64 (c : Int)) rfl (Or.inl ⟨by rfl, fun w' hS => by go_simp⟩) hh ?_
        simp only [Act.put, List.setIfInBounds_toArray, List.set_cons_zero, List.set_cons_succ]
        refine anyH_tk 9 33 (.slice (some ⟨g', off', none⟩) c cap') rfl (Or.inl ⟨by rfl, fun w' hS => by go_simp⟩) hh ?_
        simp only [Act.put, List.setIfInBounds_toArray, List.set_cons_zero, List.set_cons_succ]
        refine anyH_tk 10 34 (.int .i64 (p : Int)) rfl (Or.inl ⟨by rfl, fun w' hS => by go_simp⟩) hh ?_
        simp only [Act.put, List.setIfInBounds_toArray, List.set_cons_zero, List.set_cons_succ]
        refine anyH_tk 11 35 (.int .i64 ((p : Int) + 1)) rfl (Or.inl ⟨by rfl, fun w' hS => by go_simp⟩) hh ?_
        simp only [Act.put, List.setIfInBounds_toArray, List.set_cons_zero, List.set_cons_succ]
        refine anyH_tk 13 37 (.pointer (some ⟨w.heap.size, 1, none⟩)) rfl (Or.inl ⟨by rfl, fun w' hS => by go_simp⟩) hh ?_
        simp only [Act.put, List.setIfInBounds_toArray, List.set_cons_zero, List.set_cons_succ]
        have hsm : St.Sm cb := by
          have := hI.out.small R[0] (List.getElem_mem hR0)
          rw [HT.out] at this
          rw [← HCB.out, List.getD_eq_getElem?_getD, List.getElem?_eq_getElem hpt]
          exact this _ (List.getElem_mem hpt)
        obtain ⟨j, hj⟩ : ∃ j, St.slot cb = j := ⟨_, rfl⟩
        have hj36 : j < 36 := by rw [← hj]; exact St.slot_lt hsm
        refine step_call (i := 5) (o := { dst := some 29, op := _, type := _, pos := _, after := _, guard := _ }) (f := 196) (args := #[.int .u8 (cb.toNat : Int)]) (Post := fun v w' => v = .int .i64 (j : Int) ∧ w' = W5) (by kernel_rfl) rfl (by rfl) (by go_simp) ?_ (fun v w' h => by rw [h.2]; exact hh) ?_
        · refine (slot_any cb W5 hsm).mono ?_
          rintro r w' ⟨rfl, rfl⟩
          exact ⟨_, rfl, by rw [hj], rfl⟩
        rintro v w' ⟨rfl, rfl⟩
        simp only [Act.put, List.setIfInBounds_toArray, List.set_cons_zero, List.set_cons_succ]
        have hst := same_tails R p (fun x hx => ⟨(hI.out.ok x hx).1, hI.out.small x hx⟩)
        rw [HCE.out] at hst
        have hneT : ∀ d ∈ tails R p, d ≠ [] := by
          intro d hd e
          obtain ⟨x, hx, rfl⟩ := List.mem_map.1 hd
          have h1 := (hI.out.ok x hx).1
          have h2 : (St.sw x).length = x.length := by simp [St.sw]
          have h3 := List.drop_eq_nil_iff.1 e
          omega
        have htt : ((tails R p).take c).map List.tail = tails (R.take c) (p + 1) := tails_take R p c
        have hk15 : Kp [] wr w' := k1.next k5
        have hcall := HF.out (some ⟨g', off', none⟩) c cap' (p + 1) (R.take c) kn' w' (by
            rcases (hI.out.view.kp0 hk15) with h | ⟨g2, o2, e2, hg2, hc2⟩
            · exact .inl (by rw [h]; simp)
            · exact .inr ⟨g2, o2, e2, hg2, fun i hi => by
                have hi' : i < R.length := by simp at hi; omega
                rw [List.getElem_take]; exact hc2 i hi'⟩) (by rw [List.length_take]; omega) hcs.1 (by omega) (by omega)
          ⟨fun x hx => by have := hI.out.ok x (List.mem_of_mem_take hx); omega, fun x hx => hI.out.small x (List.mem_of_mem_take hx), by
            rw [← htt, ← hst]; exact srt_group _ hI.out.srt hneT⟩ (by omega) (by
            obtain ⟨M, M2, aa, ca, st, A, hbl⟩ := hI.out.bld
            exact ⟨M, M2, aa, ca, st, A, hbl.kp0 hk15⟩) (by
            rw [← htt, sz1_tails _ fun d hd => hneT d (List.mem_of_mem_take hd)]
            have h1 := sz0_split (tails R p) c
            have h2 := hI.out.room
            omega) (by have := hk15.size; omega)
        rw [show ((p + 1 : Nat) : Int) = (p : Int) + 1 by omega] at hcall
        obtain ⟨r, hr⟩ : ∃ r, St.beh f (tails (R.take c) (p + 1)) kn' = r := ⟨_, rfl⟩
        rw [hr] at hcall
        have HR := hide hr
        refine step_call (i := 12) (o := { dst := some 36, op := _, type := _, pos := _, after := _, guard := _ }) (f := 166) (args := #[.pointer (some ⟨b, 0, none⟩), .slice (some ⟨g', off', none⟩) c cap', .int .i64 ((p : Int) + 1)]) (Post := fun v w6 => v = .int .i64 ((r.1 : Nat) : Int) ∧ Bld w6 b B r.2 ∧ Below B w' w6 ∧ Kx w' w6) (by kernel_rfl) rfl (by rfl) (by go_simp) ?_ (fun v w6 h => by rw [h.2.2.1.cell (p := ⟨g', off', none⟩) hg']; exact hh) ?_
        · refine hcall.mono ?_
          rintro r2 w6 ⟨rfl, h1, h2, h3⟩
          exact ⟨_, rfl, rfl, h1, h2, h3⟩
        rintro v w6 ⟨rfl, hbl6, hbe6, hkx6⟩
        simp only [Act.put, List.setIfInBounds_toArray, List.set_cons_zero, List.set_cons_succ]
        have hh6 : w6.cell? ⟨g', off', none⟩ = some (.string ⟨t.toArray⟩) := by rw [hbe6.cell (p := ⟨g', off', none⟩) hg']; exact hh
        have hX6 := hkx6 _ _ _ (hk15.heap hI.out.out (by simp))
        have hcx := exC_at w6 w.heap.size ⟨false, to⟩ j hX6 (by rw [show (⟨false, to⟩ : St.Ex).to = to from rfl, hI.out.to36]; exact hj36)
        have i0 : (0 : Int) ≤ (j : Int) := by omega
        have i36 : (j : Int) < 36 := by omega
        refine anyH_tk 14 38 (.pointer (some ⟨w.heap.size, 1 + j, none⟩)) rfl (Or.inl ⟨by rfl, fun w' hS => by go_simp⟩) hh6 ?_
        simp only [Act.put, List.setIfInBounds_toArray, List.set_cons_zero, List.set_cons_succ]
        obtain ⟨hcx1, hcx2⟩ := hcx
        refine step_done (i := 15) (o := { dst := none, op := _, type := _, pos := _, after := _, guard := _ }) (w' := w6.setCell ⟨w.heap.size, 1 + j, none⟩ (.int .i64 ((r.1 : Nat) : Int))) (by kernel_rfl) rfl (by rfl) (by go_simp) ?_ (by kernel_rfl) ?_
        · exact ((Kp.refl [w.heap.size] w6).setCell (.inl (by simp)) _).cellv hh6 (by simp; omega)
        have hj2 : St.hd ((tails R p).headD []) = j := by
          have hR : tails R p = (St.sw R[0]).drop p :: tails (R.drop 1) p := by
            cases R with
            | nil => simp at hR0
            | cons x R => rfl
          rw [hR, List.headD_cons, HT.out, hd_drop t p hpt, HCB.out, hj]
        obtain ⟨W7, hW7⟩ : ∃ W7, w6.setCell ⟨w.heap.size, 1 + j, none⟩ (.int .i64 ((r.1 : Nat) : Int)) = W7 := ⟨_, rfl⟩
        rw [hW7]
        have k7 : Kp [w.heap.size] w6 W7 := by rw [← hW7]; exact (Kp.refl _ _).setCell (.inl (by simp)) _
        have hX7 : W7.heap[w.heap.size]? = some (.cells (exC ⟨false, to.set j r.1⟩).toArray 267 (0, 0)) := by
          rw [← hW7, heap_setCell_same w6 w.heap.size (1 + j) _ 267 _ hX6, exC_set]
        have hlt := beh_little f (tails (R.take c) (p + 1)) kn' (by
          intro e
          have := congrArg List.length e
          rw [tails_len, List.length_take] at this
          have h0 : ([] : List St.Wd).length = 0 := rfl
          omega) (by rw [← htt, ← hst]; exact srt_group _ hI.out.srt hneT)
        rw [HR.out, ← htt, sz1_tails _ fun d hd => hneT d (List.mem_of_mem_take hd)] at hlt
        have hspl := sz0_split (tails R p) c
        rw [tails_drop] at hspl
        have hw6 : w.heap.size < w6.heap.size := heap_lt hX6
        have hnext : ∀ a2 cap2, Tv W7 B a2 (R.drop c) → m - c ≤ cap2 → BLoop b B f p false w.heap.size w fin0 (R.drop c) a2 cap2 (m - c) (to.set j r.1) r.2 W7 := by
          intro a2 cap2 hv2 hcap2
          refine ⟨by rw [List.length_drop, hml], hcap2, hv2, ?_, fun x hx => hI.out.ok x (List.mem_of_mem_drop hx), fun x hx => hI.out.small x (List.mem_of_mem_drop hx), ?_, ?_, hX7, by rw [List.length_set]; exact hI.out.to36, ?_, ?_, by omega, ?_, ?_⟩
          · obtain ⟨gg, hgg, heq⟩ := hI.out.eq
            cases gg with
            | zero => omega
            | succ gg =>
              refine ⟨gg, by omega, ?_⟩
              rw [← heq]
              conv => rhs; unfold St.grp
              rw [if_neg (by
                intro e
                have := congrArg List.length e
                rw [tails_len] at this
                have h0 : ([] : List St.Wd).length = 0 := rfl
                omega)]
              simp only [hst, hj2, htt, HR.out, tails_drop]
          · have := List.Pairwise.sublist (List.drop_sublist c (tails R p)) hI.out.srt
            rw [tails_drop] at this
            exact this
          · obtain ⟨M, M2, aa, ca, st, A, hbl⟩ := hbl6
            have hXb : w.heap.size ≠ b := by intro e; rw [e, hbl.heap] at hX6; simp at hX6
            have hXM : w.heap.size ≠ M := by
              intro e; obtain ⟨es, cl, h⟩ := hbl.known.block
              rw [e, h] at hX6; simp at hX6
            have hXM2 : w.heap.size ≠ M2 := by
              intro e; obtain ⟨es, cl, h⟩ := hbl.lead.block
              rw [e, h] at hX6; simp at hX6
            exact ⟨M, M2, aa, ca, st, A, k7.heap hbl.heap (by simpa using hXb.symm), hbl.known.kp k7 (by simpa using hXM.symm), hbl.lead.kp k7 (by simpa using hXM2.symm), k7.owns hbl.about (fun x hx hm => by simp at hm; subst hm; exact owns_ne hbl.about hX6 (by decide) hx), hbl.len, hbl.ne, hbl.hb, hbl.hM, hbl.hM2, hbl.ok⟩
          · intro x hx
            rcases List.mem_or_eq_of_mem_set hx with hx | rfl
            · have := hI.out.tole x hx; omega
            · exact hlt.1
          · have := hI.out.room; omega
          · have h1 := (hI.out.bel.trans (hk15.below (by omega) (by simp))).trans hbe6
            exact h1.trans (k7.below (by omega) (by simp; omega))
          · have hk6 := (hI.out.kx.trans (kx_kp hk15 (by simp))).trans hkx6
            intro k cs fr hk
            have hlk := heap_lt hk
            exact k7.heap (hk6 k cs fr hk) (by simp; omega)
        have hv7 : Tv W7 B (some ⟨g', off', none⟩) R := by
          have h1 := ((hI.out.view.kp0 hk15).below hbe6)
          exact h1.below (k7.below (by omega) (by simp; omega))
        have hn1 := hide (fun h : m - c = 0 => hnext (some ⟨g', off', none⟩) (cap' - c) (.inl (List.drop_eq_nil_iff.2 (by omega))) (by omega))
        have hn2 := hide (hnext (some ⟨g', off' + c, none⟩) (cap' - c) (hv7.drop1 c) (by omega))
        clear hnext hv7 hX7 hX6 hbl6 hh6 hcx1 hcx2 hh hc1 hc0
        simp only [Act.put]
        go_wp2_with fail
        refine ⟨⟨R.drop c, _, _, _, to.set j r.1, r.2, rfl, ?_⟩, by simp [lenV]; omega⟩
        by_cases e : cap' = c
        · rw [if_pos e]; exact hn1.out (by omega)
        · rw [if_neg e]; exact hn2.out
      · have hm00 : m = 0 := by omega
        subst hm00
        have hRn : R = [] := List.length_eq_zero_iff.1 hml
        subst hRn
        obtain ⟨gg, hgg, heq⟩ := hI.out.eq
        have hf0 : fin0 = (to, kn') := by
          rw [← heq]
          cases gg with
          | zero => rfl
          | succ gg => simp [St.grp, tails]
        subst hf0
        have hF := HFIN.out
        simp only at hF
        have hokE : OkE ⟨false, to⟩ := ⟨hI.out.to36, fun x hx => by have h1 := hI.out.tole x hx; have h2 := hI.out.room; omega⟩
        have hsto := fun (u : World) (k : Kp [] wr u) => stateOf_any b B kn' ⟨false, to⟩ u (by
            obtain ⟨M, M2, aa, ca, st, A, hbl⟩ := hI.out.bld
            exact ⟨M, M2, aa, ca, st, A, hbl.kp0 k⟩) hokE hI.out.tole (by have := hI.out.room; omega) (by have := k.size; omega)
        rw [← hF] at hsto
        have hszE : Hid ((Tryz.prog.info? 267).map (·.size) = some (exC ⟨false, to⟩).length) := by show _ = _; rw [info429]; simp [exC, hokE.1]
        have hrg : Hid (∀ u : World, Kp [] wr u → u.rangeAt w.heap.size 0 (exC ⟨false, to⟩)) := fun u k j v hv => by
          rw [cell_of_row u _ _ _ _ _ (k.heap hI.out.out (by simp))]
          simpa using hv
        have HST := hide hsto
        have hbel := hide hI.out.bel
        have hkx := hide hI.out.kx
        have hrgw := hrg.out wr (Kp.refl _ _)
        have HRG := hide hrgw
        have hsw := HST.out wr (Kp.refl _ _)
        have HSW := hide hsw
        clear hsto hF heq hI hrg HST hrgw hsw
        go_wp2_with (first
          | (refine wpList_load_mid rfl 267 _ rfl w.heap.size 0 rfl (exC ⟨false, to⟩) _ HRG.out Tryz.underlying267 rfl hszE.out ?_)
          | fail)
        refine HSW.out.mono ?_
        rintro r w7 ⟨rfl, h1, h2, h3⟩
        go_wp2_with fail
        go_ret
        exact ⟨rfl, h1, hbel.out.trans h2, hkx.out.trans h3⟩
end Go.Proofs.YtnffagpdnklnkaaGreatDoor.Pak
