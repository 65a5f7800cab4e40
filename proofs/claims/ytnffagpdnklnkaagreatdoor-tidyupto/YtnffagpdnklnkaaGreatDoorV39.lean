import Derived.Test.YtnffagpdnklnkaaGreatDoorV38
import Derived.Test.YtnffagpdnklnkaaGreatDoorV35
set_option linter.unusedVariables false
set_option linter.unusedSimpArgs false
set_option maxRecDepth 8000
namespace Go.Proofs.YtnffagpdnklnkaaGreatDoor.Pak
open Go.RowKit Go.Proofs.YtnffagpdnklnkaaGreatDoor Go.Proofs.YtnffagpdnklnkaaGreatDoor.Spl SiftM
attribute [local go_sem] Oper.semAt_some

/-- Where the loop over the stakes stands. -/
structure DocI (w : World) (Qs : List (PPt × Nat)) (i : Nat) (Ds : List Nat) (v : Value) (L : List Mv) (W : World) : Prop where
  cell : W.heap[w.heap.size]? = some (.cells #[v] 188 (0, 0))
  mov : MovIs W (w.heap.size + 1) v L
  docs : L.map (fun x => (x.1, x.2.1)) = docsOf (Qs.take i)
  kp : Kp [w.heap.size] w W
  nd : Ds.Nodup
  marks : ∀ D ∈ Ds, W.heap[D]? = some (.deferred (some []))
  len : L.length ≤ 64 * i
  high : ∀ D ∈ Ds, w.heap.size < D
set_option maxRecDepth 100000 in
set_option maxHeartbeats 4000000 in
theorem docs_any (m B n : Nat) (Qs : List (PPt × Nat)) (w : World) (hm : MrgIs w B m (Qs.map fun x => (x.1.p, x.2))) (hn : Qs.length = n) (hn1 : n ≤ 1000) (hn0 : 0 < n) (hQ : ∀ x ∈ Qs, PartIs w x.1 ∧ x.1.hi ≤ w.heap.size ∧ x.2 < 2 ^ x.1.T.length) (hT : Tab64 w) (h1 : 1 < w.heap.size) :
    Calls Tryz.prog 119 #[.pointer (some ⟨m, 0, none⟩)] w fun e w' => ∃ v L, e = .returned v ∧ MovIs w' w.heap.size v L ∧ (L.map fun x => (x.1, x.2.1)).Perm (docsOf Qs) ∧ (L.Pairwise fun x y => x.1.1 ≤ y.1.1) ∧ Kp [] w w' := by
  obtain ⟨i0, hi0, hz0, hz1, hz2⟩ := info_parts info191
  obtain ⟨mv, hmc, hmo⟩ := hm
  obtain ⟨W1, hW1⟩ : ∃ W1, w.alloc (.cells #[.slice none 0 0] 188) = W1 := ⟨_, rfl⟩
  have k1 : Kp [] w W1 := by rw [← hW1]; exact (Kp.refl _ _).alloc _
  have hs1 : W1.heap.size = w.heap.size + 1 := by rw [← hW1]; simp
  have hb1 : W1.heap[w.heap.size]? = some (.cells #[.slice none 0 0] 188 (0, 0)) := by rw [← hW1]; exact heap_alloc_new w _
  rcases hmo.2 with ⟨_, h0⟩ | ⟨gs, caps, cur, rfl, _, hg, hcap, hmax, hcur, htake⟩
  · rw [List.length_map, hn] at h0; omega
  have hcell : ∀ (j : Nat) (x : PPt × Nat), Qs[j]? = some x → w.cell? ⟨gs, j * 2, none⟩ = some (.pointer (some ⟨x.1.p, 0, none⟩)) ∧ w.cell? ⟨gs, j * 2 + 1, none⟩ = some (.int .u64 (x.2 : Int)) := fun j x hx => by
    have hjl : j < (Qs.map fun x => (x.1.p, x.2)).length := by rw [List.length_map]; exact (List.getElem?_eq_some_iff.mp hx).1
    have hxj : (Qs.map fun x => (x.1.p, x.2))[j] = (x.1.p, x.2) := by
      have := (List.getElem?_eq_some_iff.mp hx).2
      simp [this]
    have e0 := stV_get _ j hjl 0 (.pointer (some ⟨x.1.p, 0, none⟩)) (by rw [hxj]; rfl)
    have e1 := stV_get _ j hjl 1 (.int .u64 (x.2 : Int)) (by rw [hxj]; rfl)
    rw [← htake, List.getElem?_take_of_lt (by omega)] at e0 e1
    exact ⟨by simpa [World.cell?, hg] using e0, by simpa [World.cell?, hg] using e1⟩
  have hm1 := k1.heap hmc (by simp)
  rw [List.length_map, hn] at hm1
  have m0 : W1.cell? ⟨m, 0, none⟩ = some (.slice (some ⟨gs, 0, none⟩) n caps) := by simp [World.cell?, hm1]
  have hgl := heap_lt hg
  have HC := hide hcell
  have HQ := hide hQ
  have HT := hide hT
  have HN := hide hn
  have HB1 := hide hb1
  clear hmc hmo hm1 hg htake hcur hmax hcap hcell hQ hT hn hb1
  refine (callsIn_wide (n := 5)).1 ?_
  refine callsIn_of_wp_marks Tryz.func119 rfl trivial ?_ rfl
  simp only [Tryz.ntmps119, List.size_toArray, List.length_cons, List.length_nil, Nat.reduceAdd, Nat.reduceSub, Array.replicate_succ, Array.replicate_zero, List.push_toArray, List.append_toArray, List.nil_append, List.cons_append]
  refine wpIn_wide.2 ?_
  refine Go.wp_mono (Q := endM _ _) ?_ endM_post
  go_wp2_with (simp only [hW1])
  refine wp_loop (fun a W => ∃ (i : Nat) (Ds : List Nat) (v : Value) (L : List Mv) (s5 s13 s14 s15 s16 s17 s18 s38 : Value), i ≤ n ∧ a = { tmps := #[.pointer (some ⟨m, 0, none⟩), undef, .slice none 0 0, .pointer (some ⟨w.heap.size, 0, none⟩), undef, s5, undef, .pointer (some ⟨m, 0, none⟩), .pointer (some ⟨m, 0, none⟩), .pointer (some ⟨m, 0, none⟩), .slice (some ⟨gs, 0, none⟩) n caps, .int .i64 (n : Int), .int .i64 (i : Int), s13, s14, s15, s16, s17, s18, undef, undef, undef, undef, undef, undef, undef, undef, undef, undef, undef, undef, undef, undef, undef, undef, undef, undef, undef, s38, undef, undef, undef], defers := Ds.map colM } ∧ DocI w Qs i Ds v L W) (fun a _ => n - (intOf (a.tmps.getD 12 undef)).toNat) ?_ ?_
  · exact ⟨0, [], _, [], undef, undef, undef, undef, undef, undef, undef, undef, by omega, rfl, ⟨HB1.out, MovIs.nil _ _, rfl, k1.mono (by simp), List.nodup_nil, by simp, by simp, by simp⟩⟩
  rintro a W ⟨i, Ds, v, L, s5, s13, s14, s15, s16, s17, s18, s38, hi, rfl, hI⟩
  obtain ⟨vc, va, rfl⟩ : ∃ vc va, v = .slice va L.length vc := by
    obtain ⟨a', c', e, _⟩ := owns_forms hI.mov.row
    exact ⟨c', a', e⟩
  have HI := hide hI
  clear hI
  by_cases hlt : i < n
  · have hiL : i < Qs.length := by rw [HN.out]; exact hlt
    obtain ⟨t, al, hx⟩ : ∃ t al, Qs[i] = (t, al) := ⟨_, _, rfl⟩
    have hxq : Qs[i]? = some (t, al) := by rw [List.getElem?_eq_getElem hiL, hx]
    obtain ⟨c0, c1⟩ := HC.out i (t, al) hxq
    have hkw : Kp [w.heap.size] w W := HI.out.kp
    have hb0lt := heap_lt HI.out.cell
    have pc0 := hkw.cellv c0 (by simp; omega)
    have pc1 := hkw.cellv c1 (by simp; omega)
    have hq0 := HQ.out (t, al) (by rw [← hx]; exact List.getElem_mem hiL)
    simp only at hq0
    obtain ⟨hP, hhi, hmask⟩ := hq0
    have htp := heap_lt hP.cells
    have hPW : PartIs W t := hP.kp hkw (by simp only [List.mem_singleton]; omega) (fun x hx => by simp at hx; subst hx; exact .inr hhi)
    have htk : Qs.take (i + 1) = Qs.take i ++ [(t, al)] := by rw [take_snocL Qs i hiL, hx]
    have HTK := hide htk
    have HPW := hide hPW
    have j1 : (0 : Int) ≤ (i : Int) := by omega
    have j2 : (i : Int) < (n : Int) := by omega
    simp only at pc0 pc1
    clear c0 c1 hx hxq htk hPW
    obtain ⟨W2, hW2⟩ : ∃ W2, W.alloc (.cells #[.pointer (some ⟨t.p, 0, none⟩), .int .u64 (al : Int)] 185) = W2 := ⟨_, rfl⟩
    have k2 : Kp [] W W2 := by rw [← hW2]; exact (Kp.refl _ _).alloc _
    have hs2 : W2.heap.size = W.heap.size + 1 := by rw [← hW2]; simp
    have hb2 : W2.heap[W.heap.size]? = some (.cells #[.pointer (some ⟨t.p, 0, none⟩), .int .u64 (al : Int)] 185 (0, 0)) := by rw [← hW2]; exact heap_alloc_new W _
    obtain ⟨n0, n1, _, _⟩ := pr_cells hb2
    have HB2 := hide hb2
    clear hb2
    go_wp2_with fail
    refine (places_any _ W2).mono ?_
    rintro e W5 ⟨rfl, hW5⟩
    have k25 : Kp [] W2 W5 := by rw [hW5]; exact (Kp.refl _ _).alloc _
    have hs5 : W5.heap.size = W2.heap.size + 1 := by rw [hW5]; simp
    have hc5 : W5.cell? ⟨W2.heap.size, 0, none⟩ = some (.int .u64 (al : Int)) := by
      have := heap_alloc_new W2 (.cells #[.int .u64 (al : Int)] 79)
      rw [← hW5] at this
      simp [World.cell?, this]
    have k5 : Kp [] W W5 := k2.next k25
    have kw5 : Kp [w.heap.size] w W5 := hkw.next (k5.mono (by simp))
    have hT5 := HT.out.kp kw5 (by simp; omega)
    have hP5 := HPW.out.kp k5 (by simp) (by simp)
    have hb5 := k25.heap HB2.out (by simp)
    have hC5 := k5.heap HI.out.cell (by simp)
    have hm5 : MovIs W5 (w.heap.size + 1) (.slice va L.length vc) L := HI.out.mov.kp k5 (by simp)
    have hz5 : W2.heap.size < W5.heap.size := by omega
    have hlen60 := hP5.fine.len
    have hal : al < 18446744073709551616 := Nat.lt_of_lt_of_le hmask (by
      have : 2 ^ t.T.length ≤ 2 ^ 60 := Nat.pow_le_pow_right (by omega) hlen60
      omega)
    obtain ⟨BL, hBL⟩ : ∃ BL, BL = bitsOf al := ⟨_, rfl⟩
    have hBLt : ∀ d ∈ BL, d < t.T.length := fun d hd => by
      rw [hBL] at hd
      have hb := (List.mem_filter.1 hd).2
      exact Nat.lt_of_not_le fun hle => by
        have := Nat.testBit_lt_two_pow (Nat.lt_of_lt_of_le hmask (Nat.pow_le_pow_right (by omega) hle))
        rw [this] at hb; cases hb
    have hBlen : BL.length ≤ 64 := by
      rw [hBL]
      have := List.length_filter_le (fun i => al.testBit i) (List.range 64)
      rw [List.length_range] at this
      exact this
    have HP5 := hide hP5
    have HB5 := hide hb5
    have HC5 := hide hC5
    have HM5 := hide hm5
    have HT5 := hide hT5
    have HBL := hide hBL
    have HW5 := hide hW5
    clear hP5 hb5 hC5 hm5 n0 n1 hW5
    go_wp2_with fail
    refine (wpIn_wide (n := 5)).1 ?_
    refine wpIn_rangeFunc_ownG rfl (by omega) (gf := 163) (lb := #[.pointer (some ⟨W.heap.size + 1, 0, none⟩)]) rfl trivial (enters_of Tryz.func163 (by kernel_rfl) rfl)
      (places_stops 4 (by omega) (W.heap.size + 1) al BL hBL hal W5 (by omega) (by omega) (by rw [← hs2]; exact hc5) hT5) ktab_t (ktab_b (n := W5.heap.size) (by omega)) (Below.refl _ _) (fun _ => rfl)
      (fun pre W' => ∃ va' L' vc', W'.heap[w.heap.size]? = some (.cells #[.slice va' L'.length vc'] 188 (0, 0)) ∧ MovIs W' (w.heap.size + 1) (.slice va' L'.length vc') L' ∧ L'.map (fun x => (x.1, x.2.1)) = docsOf (Qs.take i) ++ (pre.map Subtype.val).map (fun d => (t.T.getD d (0, []), t.dead.testBit d)) ∧ L'.length = L.length + pre.length ∧ Kp [w.heap.size] w W' ∧ Kv w.heap.size W5 W')
      (fun _ _ _ => False)
      ?own
      (fun _ _ _ _ _ hs _ _ => hs)
      ⟨va, L, vc, HC5.out, HM5.out, by simp [HI.out.docs], by simp, kw5, Kv.refl _ _⟩
      (fun x => { tmps := #[.pointer (some ⟨m, 0, none⟩), undef, .slice none 0 0, .pointer (some ⟨w.heap.size, 0, none⟩), undef, .pointer (some ⟨W.heap.size, 0, none⟩), .int .i64 (x.1 : Int), .pointer (some ⟨m, 0, none⟩), .pointer (some ⟨m, 0, none⟩), .pointer (some ⟨m, 0, none⟩), .slice (some ⟨gs, 0, none⟩) n caps, .int .i64 (n : Int), .int .i64 (i : Int), .bool true, .pointer (some ⟨gs, i * 2, none⟩), .agg #[.pointer (some ⟨t.p, 0, none⟩), .int .u64 (al : Int)], .pointer (some ⟨W.heap.size, 1, none⟩), .int .u64 (al : Int), .func (.func 163) #[] #[.pointer (some ⟨W.heap.size + 1, 0, none⟩)], .int .i64 (x.1 : Int), undef, undef, undef, undef, undef, undef, undef, undef, undef, undef, undef, undef, undef, undef, undef, undef, undef, undef, s38, undef, undef, undef], defers := [] }) ?assign ?body ?done ?stop
    case own =>
      rintro pre A A' row ⟨va', L', vc', e1, e2, e3, e4, e5, e6⟩ hg hr
      have kr : Kp row.toList A A' := ⟨hg.os, hg.tape, hg.output, hg.size, fun k hk hn => hg.block k hk (by intro e; apply hn; rw [← e]; simp)⟩
      have hnc : ∀ g ∈ row.toList, ∀ cs t fr, A.heap[g]? ≠ some (.cells cs t fr) := fun g hgr cs t fr e => by
        obtain ⟨_, o, ho, hc⟩ := hr g (by simpa using hgr)
        rw [ho] at e; cases e; simp [Obj.isCells] at hc
      have hge : ∀ g ∈ row.toList, W5.heap.size ≤ g := fun g hgr => (hr g (by simpa using hgr)).1
      refine ⟨va', L', vc', kr.heap e1 (fun hx => hnc _ hx _ _ _ e1), e2.kp kr (fun g hgr cs t _ => hnc g hgr cs t _), e3, e4, e5.trans kr (fun x hx => .inr (by have := hge x hx; have := kw5.size; omega)), ?_⟩
      refine ⟨Nat.le_trans e6.size kr.size, fun k o hk hb ho => kr.heap (e6.block k o hk hb ho) (fun hx => ?_)⟩
      have := hge k hx
      have := heap_lt hk
      omega
    case assign =>
      intro l x W' K hK
      simp only [plV]
      gi_wp2
      exact hK
    case stop =>
      rintro D cc pre W' _ _ h _
      exact h.elim
    case body =>
      rintro l pre x V ⟨va2, L2, vc2, e1, e2, e3, e4, e5, e6⟩ hpl
      obtain ⟨d, hd⟩ := x
      have hdT := hBLt d hd
      have hPV : PartIs V t := hP.kp e5 (by simp only [List.mem_singleton]; omega) (fun x hx => by simp at hx; subst hx; exact .inr hhi)
      have hbV : V.heap[W.heap.size]? = some (.cells #[.pointer (some ⟨t.p, 0, none⟩), .int .u64 (al : Int)] 185 (0, 0)) := e6.cell (j := 0) (v := undef) HB5.out (by decide) (by omega)
      have q0 : V.cell? ⟨w.heap.size, 0, none⟩ = some (.slice va2 L2.length vc2) := by simp [World.cell?, e1]
      have q1 : V.cell? ⟨W.heap.size, 0, none⟩ = some (.pointer (some ⟨t.p, 0, none⟩)) := by simp [World.cell?, hbV]
      obtain ⟨q2, q3⟩ := part_two hPV
      have mixed : Tryz.prog.follows .mixedOrders = true := by kernel_rfl
      have htd : (t.T.getD d (0, []), t.dead.testBit d) = (t.T[d], t.dead.testBit d) := by rw [fst_getD t.T d hdT]
      obtain ⟨bt, hbt⟩ : ∃ bt, t.dead.testBit d = bt := ⟨_, rfl⟩
      have htx := fun (W9 : World) (k : Kp [] V W9) => segText_any t.lo t.hi t.q t.num t.M d t.T t.iv t.tv W9 (hPV.seg.kp k (by simp)) hPV.fine hdT
      have hha := fun (W9 : World) => setHas_any t.dead d W9 hPV.dlt (by omega)
      rw [hbt] at hha
      obtain ⟨tx, htxe⟩ : ∃ tx, t.T[d] = tx := ⟨_, rfl⟩
      rw [htxe] at htx htd
      have E1 := hide e1
      have E2 := hide e2
      have E3 := hide e3
      have HTD := hide htd
      have HBT := hide hbt
      have hlo : ∀ x ∈ (Value.slice va2 L2.length vc2).ownBlock.toList, w.heap.size + 1 ≤ x := fun x hx => (e2.row.lt x (Option.mem_toList.1 hx)).1
      have hty : ∀ x ∈ (Value.slice va2 L2.length vc2).ownBlock.toList, ∃ cs, V.heap[x]? = some (.cells cs 191 (0, 0)) := fun x hx => owns_typed e2.row (Option.mem_toList.1 hx)
      have HLO := hide hlo
      have HTY := hide hty
      have hbl := HI.out.len
      have hVz := heap_lt e1
      have hWne : W.heap.size ≠ w.heap.size := by omega
      have hL2 : L2.length ≤ 100000 := by omega
      have E4 := hide e4
      clear e1 e2 e3 e4 htd hbt htxe hlo hty hbV
      gi_wp2
      refine region_roundE (z := 18) (S := fun w' => w'.cell? ⟨w.heap.size, 0, none⟩ = some (.slice va2 L2.length vc2) ∧ w'.cell? ⟨W.heap.size, 0, none⟩ = some (.pointer (some ⟨t.p, 0, none⟩)) ∧ w'.cell? ⟨t.p, 0, none⟩ = some (.pointer (some ⟨t.q, 0, none⟩)) ∧ w'.cell? ⟨t.p, 1, none⟩ = some (.int .u64 (t.dead : Int))) mixed (by rintro ⟨_, _, h⟩; exact h) (noDefer (by rfl)) fun V9 k9 _ => ?_
      have hS0 : V9.cell? ⟨w.heap.size, 0, none⟩ = some (.slice va2 L2.length vc2) ∧ V9.cell? ⟨W.heap.size, 0, none⟩ = some (.pointer (some ⟨t.p, 0, none⟩)) ∧ V9.cell? ⟨t.p, 0, none⟩ = some (.pointer (some ⟨t.q, 0, none⟩)) ∧ V9.cell? ⟨t.p, 1, none⟩ = some (.int .u64 (t.dead : Int)) := ⟨k9.cellv q0 (by simp), k9.cellv q1 (by simp), k9.cellv q2 (by simp), k9.cellv q3 (by simp)⟩
      refine anyE_tk 0 20 (.slice va2 L2.length vc2) rfl (Or.inl ⟨by rfl, fun w' hS => by obtain ⟨s1, s2, s3, s4⟩ := hS; go_simp⟩) hS0 ?_
      try simp only [Act.put, List.setIfInBounds_toArray, List.set_cons_zero, List.set_cons_succ]
      refine anyE_tk 1 21 (.pointer (some ⟨W.heap.size, 0, none⟩)) rfl (Or.inl ⟨by rfl, fun w' hS => by obtain ⟨s1, s2, s3, s4⟩ := hS; go_simp⟩) hS0 ?_
      try simp only [Act.put, List.setIfInBounds_toArray, List.set_cons_zero, List.set_cons_succ]
      refine anyE_tk 2 22 (.pointer (some ⟨t.p, 0, none⟩)) rfl (Or.inl ⟨by rfl, fun w' hS => by obtain ⟨s1, s2, s3, s4⟩ := hS; go_simp⟩) hS0 ?_
      try simp only [Act.put, List.setIfInBounds_toArray, List.set_cons_zero, List.set_cons_succ]
      refine anyE_tk 3 23 (.pointer (some ⟨t.p, 0, none⟩)) rfl (Or.inl ⟨by rfl, fun w' hS => by obtain ⟨s1, s2, s3, s4⟩ := hS; go_simp⟩) hS0 ?_
      try simp only [Act.put, List.setIfInBounds_toArray, List.set_cons_zero, List.set_cons_succ]
      refine anyE_tk 4 24 (.pointer (some ⟨t.p, 0, none⟩)) rfl (Or.inl ⟨by rfl, fun w' hS => by obtain ⟨s1, s2, s3, s4⟩ := hS; go_simp⟩) hS0 ?_
      try simp only [Act.put, List.setIfInBounds_toArray, List.set_cons_zero, List.set_cons_succ]
      refine anyE_tk 5 25 (.pointer (some ⟨t.q, 0, none⟩)) rfl (Or.inl ⟨by rfl, fun w' hS => by obtain ⟨s1, s2, s3, s4⟩ := hS; go_simp⟩) hS0 ?_
      try simp only [Act.put, List.setIfInBounds_toArray, List.set_cons_zero, List.set_cons_succ]
      refine anyE_tk 6 26 (.int .i64 (d : Int)) rfl (Or.inl ⟨by rfl, fun w' hS => by obtain ⟨s1, s2, s3, s4⟩ := hS; go_simp⟩) hS0 ?_
      try simp only [Act.put, List.setIfInBounds_toArray, List.set_cons_zero, List.set_cons_succ]
      refine anyE_tk 8 28 (.pointer (some ⟨W.heap.size, 0, none⟩)) rfl (Or.inl ⟨by rfl, fun w' hS => by obtain ⟨s1, s2, s3, s4⟩ := hS; go_simp⟩) hS0 ?_
      try simp only [Act.put, List.setIfInBounds_toArray, List.set_cons_zero, List.set_cons_succ]
      refine anyE_tk 9 29 (.pointer (some ⟨t.p, 0, none⟩)) rfl (Or.inl ⟨by rfl, fun w' hS => by obtain ⟨s1, s2, s3, s4⟩ := hS; go_simp⟩) hS0 ?_
      try simp only [Act.put, List.setIfInBounds_toArray, List.set_cons_zero, List.set_cons_succ]
      refine anyE_tk 10 30 (.pointer (some ⟨t.p, 0, none⟩)) rfl (Or.inl ⟨by rfl, fun w' hS => by obtain ⟨s1, s2, s3, s4⟩ := hS; go_simp⟩) hS0 ?_
      try simp only [Act.put, List.setIfInBounds_toArray, List.set_cons_zero, List.set_cons_succ]
      refine anyE_tk 11 31 (.pointer (some ⟨t.p, 1, none⟩)) rfl (Or.inl ⟨by rfl, fun w' hS => by obtain ⟨s1, s2, s3, s4⟩ := hS; go_simp⟩) hS0 ?_
      try simp only [Act.put, List.setIfInBounds_toArray, List.set_cons_zero, List.set_cons_succ]
      refine anyE_tk 12 32 (.int .u64 (t.dead : Int)) rfl (Or.inl ⟨by rfl, fun w' hS => by obtain ⟨s1, s2, s3, s4⟩ := hS; go_simp⟩) hS0 ?_
      try simp only [Act.put, List.setIfInBounds_toArray, List.set_cons_zero, List.set_cons_succ]
      refine anyE_tk 13 33 (.int .i64 (d : Int)) rfl (Or.inl ⟨by rfl, fun w' hS => by obtain ⟨s1, s2, s3, s4⟩ := hS; go_simp⟩) hS0 ?_
      try simp only [Act.put, List.setIfInBounds_toArray, List.set_cons_zero, List.set_cons_succ]
      refine anyE_call (i := 7) (o := { dst := some 27, op := _, type := _, pos := _, after := _, guard := _ }) (by kernel_rfl) rfl rfl (by go_simp) (htx V9 k9) ?_
      rintro e V6 ⟨wv, rfl, how, k6⟩
      have hS6 : V6.cell? ⟨w.heap.size, 0, none⟩ = some (.slice va2 L2.length vc2) ∧ V6.cell? ⟨W.heap.size, 0, none⟩ = some (.pointer (some ⟨t.p, 0, none⟩)) ∧ V6.cell? ⟨t.p, 0, none⟩ = some (.pointer (some ⟨t.q, 0, none⟩)) ∧ V6.cell? ⟨t.p, 1, none⟩ = some (.int .u64 (t.dead : Int)) := ⟨k6.cellv hS0.1 (by simp), k6.cellv hS0.2.1 (by simp), k6.cellv hS0.2.2.1 (by simp), k6.cellv hS0.2.2.2 (by simp)⟩
      obtain ⟨wa, wc, ew, _⟩ := owns_forms how
      subst ew
      refine ⟨_, rfl, .inr hS6, ?_⟩
      try simp only [Act.put, List.setIfInBounds_toArray, List.set_cons_zero, List.set_cons_succ]
      refine anyE_call (i := 14) (o := { dst := some 34, op := _, type := _, pos := _, after := _, guard := _ }) (by kernel_rfl) rfl rfl (by go_simp) (hha V6) ?_
      rintro e V7 ⟨rfl, rfl⟩
      refine ⟨_, rfl, .inr hS6, ?_⟩
      try simp only [Act.put, List.setIfInBounds_toArray, List.set_cons_zero, List.set_cons_succ]
      refine anyE_ran (i := 15) (o := { dst := some 35, op := _, type := _, pos := _, after := _, guard := _ }) (v := .agg #[.int .i64 (tx.1 : Int), .slice wa tx.2.length wc, .bool bt]) (w' := V7) (by kernel_rfl) rfl rfl (by go_simp) (.inr hS6) ?_
      try simp only [Act.put, List.setIfInBounds_toArray, List.set_cons_zero, List.set_cons_succ]
      obtain ⟨V4, hV4⟩ : ∃ V4, V7.alloc (.cells #[.int .i64 (tx.1 : Int), .slice wa tx.2.length wc, .bool bt] 191) = V4 := ⟨_, rfl⟩
      have k4 : Kp [] V7 V4 := by rw [← hV4]; exact (Kp.refl _ _).alloc _
      have hz4 : V4.heap.size = V7.heap.size + 1 := by rw [← hV4]; simp
      have hn4 : V4.heap[V7.heap.size]? = some (.cells #[.int .i64 (tx.1 : Int), .slice wa tx.2.length wc, .bool bt] 191 (0, 0)) := by rw [← hV4]; exact heap_alloc_new _ _
      have hS4 : V4.cell? ⟨w.heap.size, 0, none⟩ = some (.slice va2 L2.length vc2) ∧ V4.cell? ⟨W.heap.size, 0, none⟩ = some (.pointer (some ⟨t.p, 0, none⟩)) ∧ V4.cell? ⟨t.p, 0, none⟩ = some (.pointer (some ⟨t.q, 0, none⟩)) ∧ V4.cell? ⟨t.p, 1, none⟩ = some (.int .u64 (t.dead : Int)) := ⟨k4.cellv hS6.1 (by simp), k4.cellv hS6.2.1 (by simp), k4.cellv hS6.2.2.1 (by simp), k4.cellv hS6.2.2.2 (by simp)⟩
      refine anyE_ran (i := 16) (o := { dst := some 36, op := _, type := _, pos := _, after := _, guard := _ }) (v := .slice (some ⟨V7.heap.size, 0, none⟩) 1 1) (w' := V4) (by kernel_rfl) rfl rfl (by rw [← hV4]; go_simp) (.inr hS4) ?_
      try simp only [Act.put, List.setIfInBounds_toArray, List.set_cons_zero, List.set_cons_succ]
      refine anyE_wp (i := 17) (o := { dst := some 37, op := _, type := _, pos := _, after := _, guard := _ }) (by kernel_rfl) rfl rfl ?_
      have kV4 : Kp [] V V4 := (k9.next k6).next k4
      have hz97 := k6.size
      have hz9 := k9.size
      refine wp_append_lies V4 _ _ 188 rfl (w.heap.size + 1) 191 i0 _ 3 40 Tryz.underlying188 hi0 hz0 hz1 hz2 rfl (by omega) (.slice va2 L2.length vc2) L2.length (movV L2) rfl (kV4.owns E2.out.row (by simp)) ⟨V7.heap.size, 0, none⟩ 1 1 [.int .i64 (tx.1 : Int), .slice wa tx.2.length wc, .bool bt] rfl rfl (World.news_of_block (cs := #[.int .i64 (tx.1 : Int), .slice wa tx.2.length wc, .bool bt]) (t := 191) (fr := (0, 0)) hn4) (by simp [Value.oneCell']) (by omega) (by unfold maxLen; omega) (by omega) (by omega) V4.heap.size rfl ?_
      intro g5 cap5 V5 hown5 hgrow hat hlt5
      have kr := grown_kp hgrow
      have hC4 := kV4.heap E1.out (by simp)
      have hC5 := kr.heap hC4 (fun hx => by have := HLO.out _ hx; omega)
      have q5 : V5.cell? ⟨w.heap.size, 0, none⟩ = some (.slice va2 L2.length vc2) := by simp [World.cell?, hC5]
      have hnt : ∀ g, (∃ cs t, V.heap[g]? = some (.cells cs t (0, 0)) ∧ t ≠ 191) → g ∉ (Value.slice va2 L2.length vc2).ownBlock.toList := fun g ⟨cs, ty, h9, h8⟩ hx => by
        obtain ⟨cs2, h7⟩ := HTY.out g hx
        rw [h9] at h7; injection h7 with h7; injection h7 with _ h6; exact h8 h6
      have hS5 : V5.cell? ⟨w.heap.size, 0, none⟩ = some (.slice va2 L2.length vc2) ∧ V5.cell? ⟨W.heap.size, 0, none⟩ = some (.pointer (some ⟨t.p, 0, none⟩)) ∧ V5.cell? ⟨t.p, 0, none⟩ = some (.pointer (some ⟨t.q, 0, none⟩)) ∧ V5.cell? ⟨t.p, 1, none⟩ = some (.int .u64 (t.dead : Int)) := ⟨q5, kr.cellv hS4.2.1 (hnt _ ⟨_, _, e6.cell (j := 0) (v := undef) HB5.out (by decide) hWne, by decide⟩), kr.cellv hS4.2.2.1 (hnt _ ⟨_, _, hPV.cells, by decide⟩), kr.cellv hS4.2.2.2 (hnt _ ⟨_, _, hPV.cells, by decide⟩)⟩
      refine ⟨.inr hS5, ?_⟩
      try simp only [Act.put, List.setIfInBounds_toArray, List.set_cons_zero, List.set_cons_succ]
      have zf : V5.frozen? ⟨w.heap.size, 0, none⟩ = false := by simp [World.frozen?, hC5]
      refine anyE_wp (i := 18) (o := { dst := none, op := _, type := _, pos := _, after := _, guard := _ }) (by kernel_rfl) rfl rfl ?_
      go_simp
      refine anyE_done (by kernel_rfl) ?_ _
      have ks := kp_set V5 w.heap.size 0 (.slice (some ⟨g5, 0, none⟩) (L2.length + 1) cap5)
      obtain ⟨VF, hVF⟩ : ∃ VF, V5.setCell ⟨w.heap.size, 0, none⟩ (.slice (some ⟨g5, 0, none⟩) (L2.length + 1) cap5) = VF := ⟨_, rfl⟩
      have hCF : VF.heap[w.heap.size]? = some (.cells #[.slice (some ⟨g5, 0, none⟩) (L2.length + 1) cap5] 188 (0, 0)) := by rw [← hVF]; exact heap_setCell_same V5 w.heap.size 0 _ 188 _ hC5
      rw [hVF] at ks
      rw [hVF]
      have kF : Kp (w.heap.size :: (Value.slice va2 L2.length vc2).ownBlock.toList) V VF := ((kV4.mono (by simp)).next (kr.mono (fun x hx => List.mem_cons_of_mem _ hx))).next (ks.mono (by simp))
      have hcells : ∀ g ∈ w.heap.size :: (Value.slice va2 L2.length vc2).ownBlock.toList, ∃ cs ty, V.heap[g]? = some (.cells cs ty (0, 0)) ∧ (ty = 188 ∨ ty = 191) := fun g hg => by
        rcases List.mem_cons.1 hg with rfl | hg
        · exact ⟨_, _, E1.out, .inl rfl⟩
        · obtain ⟨cs, hc⟩ := HTY.out g hg
          exact ⟨cs, _, hc, .inr rfl⟩
      have hnew : MovIs VF (w.heap.size + 1) (.slice (some ⟨g5, 0, none⟩) (L2.length + 1) cap5) (L2 ++ [(tx, bt, (wa, tx.2.length, wc))]) := by
        refine E2.out.snoc (by have := heap_lt E1.out; omega) (ks.owns hown5 (fun g hg hx => ?_)) ?_ kF (fun g hg cs h9 => ?_)
        · have := (hown5.lt g hg).1
          simp at hx; omega
        · have h9 : V7.ownsRow V.heap.size 9 1 (.slice wa tx.2.length wc) tx.2.length (strV tx.2) := owns_low how hz9
          refine ks.owns (kr.owns (k4.owns h9 (by simp)) (fun g hg hx => ?_)) (fun g hg hx => ?_)
          · obtain ⟨cs2, h7⟩ := HTY.out g hx
            have := heap_lt h7
            have := (h9.lt g hg).1
            omega
          · have := (h9.lt g hg).1
            have := heap_lt E1.out
            simp at hx; omega
        · obtain ⟨cs2, ty, h7, h6⟩ := hcells g hg
          rw [h7] at h9; injection h9 with h9; injection h9 with _ h5
          rcases h6 with rfl | rfl <;> exact absurd h5 (by decide)
      refine ⟨⟨kF.size, fun k o hk ho hc => kF.heap ho (fun hx => ?_)⟩, fun hTab => hTab.kp kF (fun hx => ?_), some ⟨g5, 0, none⟩, L2 ++ [(tx, bt, (wa, tx.2.length, wc))], cap5, by rw [List.length_append]; exact hCF, by rw [List.length_append]; exact hnew, ?_, by have := E4.out; simp; omega, ?_, ?_⟩
      · obtain ⟨cs2, ty, h7, _⟩ := hcells k hx
        rw [ho] at h7; cases h7; simp [Obj.isCells] at hc
      · rcases List.mem_cons.1 hx with h9 | h9
        · omega
        · have := HLO.out 1 h9; omega
      · rw [List.map_append, E3.out, List.map_append, List.map_append, List.append_assoc]
        congr 1
        simp only [List.map_cons, List.map_nil, HTD.out]
        rw [HBT.out]
      · exact e5.trans kF (fun x hx => by
          rcases List.mem_cons.1 hx with rfl | hx
          · exact .inl (by simp)
          · exact .inr (by have := HLO.out x hx; omega))
      · exact e6.trans (Kv.of_kp kF (fun g hg => by
          rcases List.mem_cons.1 hg with rfl | hg
          · exact .inl rfl
          · exact .inr (HTY.out g hg)))
    case done =>
      rintro D xs W' hD hxs ⟨va', L', vc', e1, e2, e3, e4, e5, e6⟩ hK
      gi_wp2
      have hfin : DocI w Qs (i + 1) (D :: Ds) (.slice va' L'.length vc') L' W' := by
        have hxl : xs.length = BL.length := by have h9 := congrArg List.length hxs; rwa [List.length_map] at h9
        have hDl : ∀ E ∈ Ds, E < W5.heap.size := fun E hE => Nat.lt_of_lt_of_le (heap_lt (HI.out.marks E hE)) k5.size
        refine ⟨e1, e2, ?_, e5, List.nodup_cons.2 ⟨fun hE => by have := hDl D hE; omega, HI.out.nd⟩, fun E hE => ?_, ?_, fun E hE => ?_⟩
        · rw [e3, hxs, HTK.out]
          unfold docsOf
          rw [List.flatMap_append, HBL.out]
          simp
        · rcases List.mem_cons.1 hE with rfl | hE
          · exact hK
          · refine e6.block E _ (k5.heap (HI.out.marks E hE) (by simp)) (fun e => ?_) (fun cs e => by cases e)
            have h9 := HI.out.marks E hE
            rw [e, HI.out.cell] at h9; cases h9
        · have := HI.out.len; omega
        · rcases List.mem_cons.1 hE with rfl | hE
          · omega
          · exact HI.out.high E hE
      have HFIN := hide hfin
      clear e1 e2 e3 e6 hfin hK
      go_wp2_with fail
      refine ⟨⟨i + 1, D :: Ds, _, L', .pointer (some ⟨W.heap.size, 0, none⟩), .bool true, .pointer (some ⟨gs, i * 2, none⟩), .agg #[.pointer (some ⟨t.p, 0, none⟩), .int .u64 (al : Int)], .pointer (some ⟨W.heap.size, 1, none⟩), .int .u64 (al : Int), .func (.func 163) #[] #[.pointer (some ⟨W.heap.size + 1, 0, none⟩)], .int .i64 ((i + 1 : Nat) : Int), by omega, ?_, HFIN.out⟩, ?_⟩
      · simp [colM]
      · simp [intOf]; omega
  · have hin : i = n := by omega
    subst hin
    have hltz : ¬ (i : Int) < (i : Int) := by omega
    have hc0 : W.cell? ⟨w.heap.size, 0, none⟩ = some (.slice va L.length vc) := by simp [World.cell?, HI.out.cell]
    have hso := sortMv_any (w.heap.size + 1) _ L W HI.out.mov.row (by have := HI.out.len; omega)
    go_wp2_with fail
    refine hso.mono ?_
    rintro e W2 ⟨D', rfl, hrow, hsort, k2⟩
    have hne0 : ∀ g ∈ (Value.slice va L.length vc).ownBlock.toList, w.heap.size < g := fun g hg => by
      have := (HI.out.mov.row.lt g (by simpa using hg)).1; omega
    have hc2 := k2.heap HI.out.cell (fun hx => by have := hne0 _ hx; omega)
    have hc20 : W2.cell? ⟨w.heap.size, 0, none⟩ = some (.slice va L.length vc) := by simp [World.cell?, hc2]
    have hmv2 : MovIs W2 (w.heap.size + 1) (.slice va L.length vc) D' := by
      refine (show MovIs W2 (w.heap.size + 1) (.slice va L.length vc) D' from ?_)
      refine ⟨by rw [hsort.1.length_eq]; exact hrow, fun x hx => k2.owns (HI.out.mov.each x (hsort.1.mem_iff.mp hx)) (fun g hg hgS => ?_), HI.out.mov.apart.perm hsort.1.symm (fun hxy g h1 h2 => hxy g h2 h1)⟩
      obtain ⟨cs, hcs⟩ := owns_typed (HI.out.mov.each x (hsort.1.mem_iff.mp hx)) hg
      obtain ⟨cs2, hcs2⟩ := owns_typed HI.out.mov.row (by simpa using hgS)
      rw [hcs] at hcs2
      injection hcs2 with hcs2; injection hcs2 with _ h9; exact absurd h9 (by decide)
    have HM2 := hide hmv2
    have HS := hide hsort
    have hmk : ∀ D ∈ Ds, W2.heap[D]? = some (.deferred (some [])) := fun D hD => k2.heap (HI.out.marks D hD) (fun hx => by
      obtain ⟨cs2, hcs2⟩ := owns_typed HI.out.mov.row (by simpa using hx)
      rw [HI.out.marks D hD] at hcs2; cases hcs2)
    have HMK := hide hmk
    have HROW := hide hrow
    clear hso hmv2 hsort hmk hrow hc2
    go_wp2_with fail
    refine leaves_marks Ds W2 HI.out.nd HMK.out fun W3 k3 => ⟨_, results_tmp rfl _ _ _, ?_⟩
    have hmD : MovIs W3 (w.heap.size + 1) (.slice va L.length vc) D' := HM2.out.kp k3 (fun g hg cs t _ e => by
      rw [HMK.out g hg] at e; cases e)
    refine ⟨.slice va L.length vc, D', rfl, ?_, ?_, HS.out.2, ?_⟩
    · exact ⟨owns_low hmD.row (by omega), fun x hx => owns_low (hmD.each x hx) (by omega), hmD.apart⟩
    · have hd := HI.out.docs
      rw [List.take_of_length_le (by rw [HN.out]; omega)] at hd
      rw [← hd]
      exact HS.out.1.map _
    · have kA : Kp [] w W := (Kp.refl [] w).trans HI.out.kp (fun x hx => .inr (by simp at hx; omega))
      have kB : Kp [] w W2 := kA.trans k2 (fun x hx => .inr (by have := hne0 x hx; omega))
      exact kB.trans k3 (fun x hx => .inr (by have := HI.out.high x hx; omega))
theorem docs_mem {Qs : List (PPt × Nat)} {y : Tx × Bool} (h : y ∈ docsOf Qs) (hm : ∀ x ∈ Qs, x.2 < 2 ^ x.1.T.length) : ∃ x ∈ Qs, y.1 ∈ x.1.T := by
  unfold docsOf at h
  obtain ⟨x, hx, h⟩ := List.mem_flatMap.1 h
  obtain ⟨d, hd, rfl⟩ := List.mem_map.1 h
  have hb := (List.mem_filter.1 hd).2
  have hlt : d < x.1.T.length := Nat.lt_of_not_le fun hle => by
    have := Nat.testBit_lt_two_pow (Nat.lt_of_lt_of_le (hm x hx) (Nat.pow_le_pow_right (by omega) hle))
    rw [this] at hb; cases hb
  exact ⟨x, hx, by rw [fst_getD _ _ hlt]; exact List.getElem_mem hlt⟩
/-- The texts of a merge are fit for a segment. -/
theorem fine_docs {Ps : List PPt} {Qs : List (PPt × Nat)} {L : List Mv} (hk : StkOk Ps Qs) (hf : ∀ t ∈ Ps, Fine t.T) (hp : (L.map fun x => (x.1, x.2.1)).Perm (docsOf Qs)) (hs : L.Pairwise fun x y => x.1.1 ≤ y.1.1) : Fine (L.map fun x => x.1) := by
  have hin : ∀ t ∈ L.map (fun x => x.1), ∃ x ∈ Qs, t ∈ x.1.T := fun t ht => by
    obtain ⟨x, hx, rfl⟩ := List.mem_map.1 ht
    exact docs_mem (y := (x.1, x.2.1)) (hp.mem_iff.1 (List.mem_map.2 ⟨x, hx, rfl⟩)) (fun x hx => (hk.mask x hx).1)
  have hnd : (L.map fun x => x.1.1).Nodup := by
    have h1 := (hp.map fun y => y.1.1).nodup_iff.2 hk.ids
    rw [List.map_map] at h1
    exact h1
  have hsrt : SortT (L.map fun x => x.1) := by
    unfold SortT
    rw [List.pairwise_map]
    refine (List.Pairwise.and hs (List.pairwise_map.1 hnd)).imp fun {x y} h => ?_
    have := h.1; have := h.2
    omega
  refine ⟨?_, rs_sorted _ 0 hsrt (fun _ _ => Nat.zero_le _), fun t ht => ?_, fun t ht => ?_, fun t ht => ?_, fun t ht => ?_⟩
  · have h1 := hp.length_eq; have h2 := hk.len
    simp at h1 ⊢
    omega
  all_goals
    obtain ⟨x, hx, hxt⟩ := hin t ht
  · exact (hf _ (hk.mem x hx)).ids t hxt
  · exact (hf _ (hk.mem x hx)).few t hxt
  · exact (hf _ (hk.mem x hx)).short t hxt
  · exact (hf _ (hk.mem x hx)).word t hxt
theorem ptV_map (Ps : List PPt) : ptV Ps = (Ps.map PPt.p).map pA := by simp [ptV, pA]
theorem tk_any (Qs : List (PPt × Nat)) (p : Nat) : ((Qs.map fun x => (x.1.p, x.2)).any fun y => decide (y.1 = p)) = tkn Qs p := by
  unfold tkn
  rw [List.any_map]; rfl
theorem kept_map (Qs : List (PPt × Nat)) (Ps : List PPt) : (Ps.map PPt.p).filter (fun x => !tkn Qs x) = (keptL Qs Ps).map PPt.p := by
  unfold keptL
  rw [List.filter_map]; rfl
/-- DeleteFunc, as the index calls it. -/
theorem delTaken_any (X B Bm m : Nat) (O : List Nat) (s : PSt) (Qs : List (PPt × Nat)) (w : World) (h : PIs w X B O s) (hk : StkOk s.Ps Qs) (hm : MrgIs w Bm m (Qs.map fun x => (x.1.p, x.2))) (hne : Qs ≠ []) (hQ : Qs.length ≤ 1000) (hb : s.Ps.length ≤ 1000000) :
    ∃ g c, s.pv = .slice (some ⟨g, 0, none⟩) s.Ps.length c ∧ Calls Tryz.prog 117 #[s.pv, .func (.func 118) #[.pointer (some ⟨m, 0, none⟩)] #[]] w fun e w' => e = .returned (.slice (some ⟨g, 0, none⟩) (keptL Qs s.Ps).length c) ∧ Kp [g] w w' ∧ w'.ownsRow B 76 1 (.slice (some ⟨g, 0, none⟩) (keptL Qs s.Ps).length c) (keptL Qs s.Ps).length (ptV (keptL Qs s.Ps)) := by
  obtain ⟨x0, hx0⟩ := List.exists_mem_of_ne_nil _ hne
  rcases h.parts.2 with ⟨_, h0⟩ | ⟨g, c, cur, e, hlow, hg, hcap, hmax, hcs, htake⟩
  · have := hk.mem x0 hx0
    rw [List.length_eq_zero_iff.1 h0] at this; cases this
  refine ⟨g, c, e, ?_⟩
  have hp : TkP [g] m (tkn Qs) (s.Ps.map PPt.p) w := fun W kW p hp => by
    obtain ⟨t, ht, rfl⟩ := List.mem_map.1 hp
    have hat : ∀ u ∈ s.Ps, AtC W u.p := fun u hu => AtC.kp ⟨_, _, (h.each u hu).cells⟩ kW (by
      simp only [List.mem_singleton]
      exact cells_ne (h.each u hu).cells hg (by decide))
    have hmW : MrgIs W Bm m (Qs.map fun x => (x.1.p, x.2)) := hm.kp kW (by
      obtain ⟨v, hv, _⟩ := hm
      simp only [List.mem_singleton]
      exact cells_ne hv hg (by decide)) (fun x hx cs fr e9 => by
      rw [List.mem_singleton.1 hx, hg] at e9
      injection e9 with e9; injection e9 with _ e8; exact absurd e8 (by decide))
    have := takes_any m t.p Bm (Qs.map fun x => (x.1.p, x.2)) W hmW (hat t ht) (fun x hx => by
      obtain ⟨y, hy, rfl⟩ := List.mem_map.1 hx
      exact hat _ (hk.mem y hy)) (by rw [List.length_map]; exact hQ) (by simpa using hne)
    rw [tk_any] at this
    exact this
  have hcs' : cur.size = c := by rw [hcs]; omega
  have hd := del_part g s.Ps.length c m (tkn Qs) (s.Ps.map PPt.p) cur w (by simp) hb hcap (by unfold maxLen at hmax; omega) hg hcs' (by
    rw [← ptV_map, ← htake]; simp) hp ⟨x0.1.p, List.mem_map.2 ⟨_, hk.mem x0 hx0, rfl⟩, List.any_eq_true.2 ⟨x0, hx0, by simp⟩⟩
  rw [e]
  refine hd.mono ?_
  rintro r w' ⟨k, rfl, kw, hkl, cs, hcg, hcz, hct⟩
  rw [kept_map, List.length_map] at hkl
  rw [kept_map, ← ptV_map] at hct
  subst hkl
  have hkle : (keptL Qs s.Ps).length ≤ s.Ps.length := List.length_filter_le _ _
  exact ⟨rfl, kw, by simp [ptV], .inr ⟨g, c, cs, rfl, hlow, hcg, by omega, hmax, by omega, by rw [Nat.mul_one]; exact hct⟩⟩
end Go.Proofs.YtnffagpdnklnkaaGreatDoor.Pak
