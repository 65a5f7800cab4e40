import Derived.Test.YtpdoacfiiledcaaGreatDoorV31
import Derived.Test.YtpdoacfiiledcaaGreatDoorV30
set_option linter.unusedVariables false
set_option linter.unusedSimpArgs false
set_option maxRecDepth 8000
namespace Go.Proofs.YtpdoacfiiledcaaGreatDoor.Pak
open Go.RowKit Go.Proofs.YtpdoacfiiledcaaGreatDoor Go.Proofs.YtpdoacfiiledcaaGreatDoor.Spl SiftM

/-- The homes of docs that had none: what is told one by one is what is told at once. -/
theorem homFold_new (T : List Tx) (p : Nat) (l : List (Nat × (Nat × Nat))) : ∀ (ds : List Nat) (f : Nat → Option (Nat × Nat)), (∀ id, f id = (l.find? fun x => x.1 == id).map Prod.snd) →
    (l.map Prod.fst ++ ds.map fun d => (T.getD d (0, [])).1).Nodup →
    (homFold T p ds (l.length, f)).1 = l.length + ds.length ∧ ∀ id, (homFold T p ds (l.length, f)).2 id = ((l ++ ds.map fun d => ((T.getD d (0, [])).1, (p, d))).find? fun x => x.1 == id).map Prod.snd
  | [], f, hf, _ => by
    refine ⟨by simp [homFold], fun id => ?_⟩
    simp [homFold, hf]
  | d :: r, f, hf, hnd => by
    obtain ⟨i, hi⟩ : ∃ i, (T.getD d (0, [])).1 = i := ⟨_, rfl⟩
    have hno : i ∉ l.map Prod.fst := by
      intro h
      have := (List.pairwise_append.1 hnd).2.2 i h i (by rw [List.map_cons, hi]; exact List.mem_cons_self)
      exact this rfl
    have hfi : f i = none := by
      rw [hf]
      cases hfd : l.find? fun x => x.1 == i with
      | none => rfl
      | some y =>
        have h1 := List.find?_some hfd
        have h2 := List.mem_of_find?_eq_some hfd
        simp at h1
        exact absurd (List.mem_map.2 ⟨y, h2, h1⟩) hno
    have hst : homStep T p (l.length, f) d = ((l ++ [(i, (p, d))]).length, setAt f i (some (p, d))) := by
      show (if (f (T.getD d (0, [])).1).isSome then l.length else l.length + 1, setAt f (T.getD d (0, [])).1 (some (p, d))) = _
      rw [hi, hfi]
      simp
    have ih := homFold_new T p (l ++ [(i, (p, d))]) r (setAt f i (some (p, d))) (fun id => by
      unfold setAt
      rw [List.find?_append]
      by_cases h : id = i
      · subst h
        rw [if_pos rfl]
        have hn : l.find? (fun x => x.1 == id) = none := by
          rw [List.find?_eq_none]
          intro x hx e
          simp at e
          exact hno (List.mem_map.2 ⟨x, hx, e⟩)
        rw [hn]
        simp
      · rw [if_neg h, hf]
        have : ¬ i = id := fun e => h e.symm
        simp [this]) (by
      rw [List.map_cons, hi] at hnd
      rw [List.map_append, List.append_assoc]
      exact hnd)
    unfold homFold at ih ⊢
    rw [List.foldl_cons, hst]
    refine ⟨by rw [ih.1]; simp; omega, fun id => ?_⟩
    rw [ih.2 id, List.map_cons, hi, List.append_assoc]
    rfl
theorem homes_eq (t : PPt) (hn : t.T.length ≤ 60) (hd : t.dead < 18446744073709551616) : (bitsOf (aliveN t.T.length t.dead)).map (fun d => ((t.T.getD d (0, [])).1, (t.p, d))) = t.homes := by
  rw [bits_alive _ _ hn hd]
  rfl
/-- A new part, whose ids have no homes yet. -/
theorem hold_homes {Ps : List PPt} {t : PPt} (hn : t.T.length ≤ 60) (hd : t.dead < 18446744073709551616) (hnd : ((homL (Ps ++ [t])).map Prod.fst).Nodup) :
    (homFold t.T t.p (bitsOf (aliveN t.T.length t.dead)) ((homL Ps).length, homF Ps)).1 = (homL (Ps ++ [t])).length ∧ (homFold t.T t.p (bitsOf (aliveN t.T.length t.dead)) ((homL Ps).length, homF Ps)).2 = homF (Ps ++ [t]) := by
  have e : homL (Ps ++ [t]) = homL Ps ++ t.homes := by unfold homL; simp
  have he := homes_eq t hn hd
  rw [e] at hnd ⊢
  obtain ⟨h1, h2⟩ := homFold_new t.T t.p (homL Ps) (bitsOf (aliveN t.T.length t.dead)) (homF Ps) (fun id => rfl) (by
    rw [List.map_append, ← he, List.map_map] at hnd
    exact hnd)
  refine ⟨?_, ?_⟩
  · rw [h1, List.length_append, ← he, List.length_map]
  · funext id
    rw [h2 id, he]
    unfold homF
    rw [e]
end Go.Proofs.YtpdoacfiiledcaaGreatDoor.Pak

set_option linter.unusedVariables false
set_option linter.unusedSimpArgs false
set_option maxRecDepth 8000
namespace Go.Proofs.YtpdoacfiiledcaaGreatDoor.Pak
open Go.RowKit Go.Proofs.YtpdoacfiiledcaaGreatDoor Go.Proofs.YtpdoacfiiledcaaGreatDoor.Spl SiftM

/-- A part that was made from one world to the next. -/
structure NewPt (w w' : World) (t : PPt) : Prop where
  lo : w.heap.size ≤ t.lo
  hi : t.hi ≤ w'.heap.size
  pl : t.hi ≤ t.p
  ph : t.p < w'.heap.size
  le : t.lo ≤ t.hi
  is : PartIs w' t

set_option maxHeartbeats 2000000 in
theorem lay_any (X B c dead : Nat) (s : PSt) (T : List Tx) (v : Value) (vs : List Value) (f : Nat → Option (Nat × Nat)) (w : World) (hX : w.heap[X]? = some (.cells (pxC s) 85 (0, 0))) (hP : w.ownsRow B 128 1 s.pv s.Ps.length (ptV s.Ps)) (hT : TextsIs w B v T vs) (hf : Fine T) (hm : HomIs w s.hb c f) (hTab : Tab64 w) (hB0 : 0 < B) (hB : B ≤ w.heap.size) (hn : s.Ps.length ≤ 1000000) (hc : c ≤ 1000000) (hnx : s.next ≤ 1000000) (hd : dead < 2 ^ T.length) :
    Calls Tryz.prog 55 #[.pointer (some ⟨X, 0, none⟩), v, .int .u64 (dead : Int)] w fun e w' => e = .returned (.tuple #[]) ∧ ∃ t pv, (t.num = s.next ∧ t.T = T ∧ t.dead = dead) ∧ NewPt w w' t ∧ w'.heap[X]? = some (.cells (pxC { s with pv := pv, next := s.next + 1 }) 85 (0, 0)) ∧ w'.ownsRow B 128 1 pv (s.Ps.length + 1) (ptV s.Ps ++ [.pointer (some ⟨t.p, 0, none⟩)]) ∧
      HomIs w' s.hb (homFold T t.p (bitsOf (aliveN T.length dead)) (c, f)).1 (homFold T t.p (bitsOf (aliveN T.length dead)) (c, f)).2 ∧ (∀ g, pv.ownBlock = some g → s.pv.ownBlock = some g ∨ t.hi ≤ g) ∧ Kp (X :: s.hb :: s.pv.ownBlock.toList) w w' := by
  obtain ⟨av, cv, ev, _⟩ := owns_forms hT.row
  have hseg := segOf_any B s.next v T vs w hT hf hnx
  have x10 : w.cell? ⟨X, 10, none⟩ = some (.int .i64 (s.next : Int)) := by simp [World.cell?, hX, pxC, pxA]
  have hXlt := heap_lt hX
  have hHlt := hm.lt
  have hPlt : ∀ g, s.pv.ownBlock = some g → g < w.heap.size := fun g hg => (hP.lt g hg).2
  have HX := hide hX
  have HP := hide hP
  have HF := hide hf
  have HM := hide hm
  have HTab := hide hTab
  have HPL := hide hPlt
  rw [ev] at hseg ⊢
  clear hX hP hT hf hm hTab hPlt ev
  go_enter Tryz.func55, Tryz.ntmps55
  go_wp2_with fail
  refine hseg.mono ?_
  rintro e w1 ⟨P, iv, tv, M, rfl, hsg, k1⟩
  have hz1 := k1.size
  have hsl := hsg.lowP
  have hsh := hsg.highP
  obtain ⟨W2, hW2⟩ : ∃ W2, w1.alloc (.cells #[.pointer (some ⟨P, 0, none⟩), .int .u64 (dead : Int)] 132) = W2 := ⟨_, rfl⟩
  have k2 : Kp [] w1 W2 := by rw [← hW2]; exact (Kp.refl _ _).alloc _
  have hp2 : W2.heap[w1.heap.size]? = some (.cells #[.pointer (some ⟨P, 0, none⟩), .int .u64 (dead : Int)] 132 (0, 0)) := by rw [← hW2]; exact heap_alloc_new w1 _
  have hz2 : w1.heap.size < W2.heap.size := heap_lt hp2
  obtain ⟨t, ht⟩ : ∃ t : PPt, t = ⟨w1.heap.size, P, w.heap.size, w1.heap.size, s.next, T, dead, iv, tv, M⟩ := ⟨_, rfl⟩
  have htp : t.p = w1.heap.size := by rw [ht]
  have htl : t.lo = w.heap.size := by rw [ht]
  have hth : t.hi = w1.heap.size := by rw [ht]
  have htT : t.T = T := by rw [ht]
  have htd : t.dead = dead := by rw [ht]
  have htn : t.num = s.next := by rw [ht]
  have hpt2 : PartIs W2 t := by
    rw [ht]
    exact ⟨hp2, hsg.kp k2 (by simp), HF.out, hd, hnx⟩
  have k02 := k1.next k2
  have hhold := hold_any X B c s t f W2 (k02.heap HX.out (by simp)) (k02.owns HP.out (by simp)) hpt2 (HM.out.kp k02 (by simp)) (HTab.out.kp k02 (by simp)) hB0 (Nat.le_trans hB k02.size) hn hc (.inl (by rw [htl]; exact hXlt)) (fun g hg => .inl (by rw [htl]; exact HPL.out g hg)) (.inl (by rw [htl]; exact hHlt))
  rw [htT, htd, htp] at hhold
  have HPT := hide hpt2
  have HTT := hide (show (t.num = s.next ∧ t.T = T ∧ t.dead = dead) from ⟨htn, htT, htd⟩)
  have HTP := hide htp
  have HTL := hide htl
  have HTH := hide hth
  clear hseg hsg hp2 hpt2 ht htp htl hth htT htd htn
  go_wp2_with fail
  refine hhold.mono ?_
  rintro e w3 ⟨rfl, pv, hX3, hP3, hm3, hpv, k3⟩
  have y10 : w3.cell? ⟨X, 10, none⟩ = some (.int .i64 (s.next : Int)) := by simp [World.cell?, hX3, pxC, pxA]
  have yf : w3.frozen? ⟨X, 10, none⟩ = false := by simp [World.frozen?, hX3]
  have hwr : IntKind.i64.wrap ((s.next : Int) + 1) = (s.next : Int) + 1 := IntWalk.i64_in _ ⟨by omega, by omega⟩
  have HX3 := hide hX3
  have HP3 := hide hP3
  have HM3 := hide hm3
  clear hhold hX3 hP3 hm3
  go_wp2_with fail
  go_end0
  obtain ⟨W4, hW4⟩ : ∃ W4, w3.setCell ⟨X, 10, none⟩ (.int .i64 ((s.next : Int) + 1)) = W4 := ⟨_, rfl⟩
  have kX : Kp [X] w3 W4 := by rw [← hW4]; exact kp_set w3 X 10 _
  have hX4 : W4.heap[X]? = some (.cells (pxC { s with pv := pv, next := s.next + 1 }) 85 (0, 0)) := by
    rw [← hW4, heap_setCell_same w3 X 10 _ 85 _ HX3.out, show ((s.next : Int) + 1) = ((s.next + 1 : Nat) : Int) by omega, pxC_set10]
  rw [hW4]
  have hz3 := k3.size
  have hz4 := kX.size
  have hS : ∀ x ∈ X :: s.hb :: s.pv.ownBlock.toList, x < w.heap.size := fun x hx => by
    rcases List.mem_cons.1 hx with rfl | hx
    · exact hXlt
    · rcases List.mem_cons.1 hx with rfl | hx
      · exact hHlt
      · exact HPL.out x (by simpa using hx)
  have k24 : Kp (X :: s.hb :: s.pv.ownBlock.toList) W2 W4 := k3.next (kX.mono (by simp))
  have hpt4 : PartIs W4 t := HPT.out.kp k24 (fun hx => by have := hS _ hx; have := HTP.out; omega) (fun x hx => .inl (by have := hS x hx; have := HTL.out; omega))
  refine ⟨rfl, t, pv, HTT.out, ⟨by rw [HTL.out]; exact Nat.le_refl _, by rw [HTH.out]; omega, by rw [HTH.out, HTP.out]; exact Nat.le_refl _, by rw [HTP.out]; omega, by rw [HTL.out, HTH.out]; exact hz1, hpt4⟩, hX4, ?_, ?_, ?_, (k02.mono (by simp)).next k24⟩
  · rw [HTP.out]
    exact kX.owns HP3.out (fun gg hgg hx => by
      simp at hx; subst hx
      exact owns_ne_type HP3.out HX3.out (by decide) hgg)
  · rw [HTP.out]
    refine HM3.out.kp kX (fun hx => ?_)
    simp at hx
    obtain ⟨es, ck, e2⟩ := HM.out.block
    exact cells_map HX.out e2 hx.symm
  · intro gg hgg
    rcases hpv gg hgg with h9 | h9
    · exact .inl h9
    · right
      rw [HTH.out]
      omega
end Go.Proofs.YtpdoacfiiledcaaGreatDoor.Pak

set_option linter.unusedVariables false
set_option linter.unusedSimpArgs false
set_option maxRecDepth 8000
namespace Go.Proofs.YtpdoacfiiledcaaGreatDoor.Pak
open Go.RowKit Go.Proofs.YtpdoacfiiledcaaGreatDoor Go.Proofs.YtpdoacfiiledcaaGreatDoor.Spl SiftM

/-- What goes from the parts. -/
def dropP (s : PSt) (id : Nat) : PSt := match homF s.Ps id with | none => s | some (p, d) => { s with Ps := killAt s.Ps p d }
theorem dropP_abs {w : World} {X B : Nat} {O : List Nat} {s : PSt} (h : PIs w X B O s) (id : Nat) : (dropP s id).abs = { s.abs with L := s.abs.L.map (DSg.mark id) } := by
  have hnd : ((homL s.Ps).map Prod.fst).Nodup := (List.pairwise_append.1 h.nodup).2.1
  unfold dropP
  cases hf : homF s.Ps id with
  | none =>
    have hno : id ∉ (homL s.Ps).map Prod.fst := by
      have := homF_isSome (Ps := s.Ps) id
      rw [hf] at this
      simpa using this.symm
    simp only
    have := none_abs hno
    unfold PSt.abs
    simp only
    rw [← this]
  | some x =>
    obtain ⟨p, d⟩ := x
    simp only
    have hx := (homF_some hnd id (p, d)).1 hf
    unfold PSt.abs
    simp only
    rw [kill_abs hnd h.apart (fun t ht => (h.each t ht).fine) hx]
theorem kill_mem {Ps : List PPt} {p d : Nat} {t : PPt} (h : t ∈ killAt Ps p d) : ∃ u ∈ Ps, (t = u ∧ u.p ≠ p) ∨ (t = u.more d ∧ u.p = p) := by
  unfold killAt at h
  obtain ⟨u, hu, rfl⟩ := List.mem_map.1 h
  refine ⟨u, hu, ?_⟩
  by_cases e : u.p = p
  · rw [if_pos e]; exact .inr ⟨rfl, e⟩
  · rw [if_neg e]; exact .inl ⟨rfl, e⟩
theorem kill_outS {Ps : List PPt} {p d g : Nat} (h : OutS Ps g) : OutS (killAt Ps p d) g := by
  intro t ht
  obtain ⟨u, hu, ⟨rfl, _⟩ | ⟨rfl, _⟩⟩ := kill_mem ht
  · exact h t hu
  · exact h u hu
theorem kill_ptV (Ps : List PPt) (p d : Nat) : ptV (killAt Ps p d) = ptV Ps := by
  unfold ptV killAt
  rw [List.map_map]
  apply List.map_congr_left
  intro t _
  simp only [Function.comp]
  split <;> rfl
theorem p_one {Ps : List PPt} (h : Ps.Pairwise fun t u => t.p ≠ u.p) {t u : PPt} (ht : t ∈ Ps) (hu : u ∈ Ps) (e : t.p = u.p) : t = u := by
  obtain ⟨i, hi, rfl⟩ := List.mem_iff_getElem.1 ht
  obtain ⟨j, hj, rfl⟩ := List.mem_iff_getElem.1 hu
  have hpw := List.pairwise_iff_getElem.1 h
  rcases Nat.lt_trichotomy i j with h3 | h3 | h3
  · exact absurd e (hpw i j hi hj h3)
  · subst h3; rfl
  · exact absurd e.symm (hpw j i hj hi h3)
/-- A doc is dead, and its id has no home. -/
theorem PIs.kill {w w' : World} {X B : Nat} {O : List Nat} {s : PSt} (h : PIs w X B O s) {id p d : Nat} (hx : (id, (p, d)) ∈ homL s.Ps) {dead : Nat} (hp : ∀ t ∈ s.Ps, t.p = p → t.dead = dead) (hd : d < 60)
    (k : Kp [p, s.hb] w w') (hc : ∃ q, w.heap[p]? = some (.cells #[q, .int .u64 (dead : Int)] 132 (0, 0)) ∧ w'.heap[p]? = some (.cells #[q, .int .u64 ((dead ||| 2 ^ d : Nat) : Int)] 132 (0, 0)))
    (hm : HomIs w' s.hb ((homL s.Ps).length - 1) (setAt (homF s.Ps) id none)) : PIs w' X B O { s with Ps := killAt s.Ps p d } := by
  have hnd : ((homL s.Ps).map Prod.fst).Nodup := (List.pairwise_append.1 h.nodup).2.1
  obtain ⟨q, hq, hq'⟩ := hc
  obtain ⟨es, ck, hmap⟩ := h.hmap
  have hk := kill_ids hnd h.apart hx
  have hidm : id ∈ (homL s.Ps).map Prod.fst := List.mem_map.2 ⟨_, hx, rfl⟩
  have hlen : (homL (killAt s.Ps p d)).length = (homL s.Ps).length - 1 := by rw [hk]; exact filter_count hnd hidm
  have hXp : X ≠ p := cells_ne h.blk hq (by decide)
  have hXh : X ≠ s.hb := cells_map h.blk hmap
  have hS : ∀ {g : Nat}, g ∈ [p, s.hb] → g = p ∨ g = s.hb := fun hx => by simpa using hx
  have far : ∀ {e : TypeId} {size m : Nat} {u : Value} {xs : List Value}, e ≠ 132 → w.ownsRow B e size u m xs → w'.ownsRow B e size u m xs := fun he hu => k.owns hu (fun gg hgg hx => by
    rcases hS hx with rfl | rfl
    · exact owns_ne_type hu hq he hgg
    · exact owns_ne_obj hu hmap hgg)
  obtain ⟨t0, ht0, hh0⟩ := mem_homL.1 hx
  have hp0 : t0.p = p := (homes_mem hh0).1.symm
  refine ⟨?_, h.rd, Nat.le_trans h.low k.size, ?_, h.word, h.sort, ?_, ?_, ?_, ?_, ?_, ?_, h.inX, h.inG, h.inW, h.inP, h.inH, ?_, ?_, kill_outS h.outX, fun g hg => kill_outS (h.outG g hg), fun g hg => kill_outS (h.outP g hg), kill_outS h.outH, ?_, ?_, ?_⟩
  · exact k.heap h.blk (fun hx => by rcases hS hx with e | e; exact hXp e; exact hXh e)
  · exact ⟨h.gath.len, far (by decide) h.gath.row, fun i h1 h2 => far (by decide) (h.gath.each i h1 h2), h.gath.apart⟩
  · show w'.ownsRow B 128 1 s.pv (killAt s.Ps p d).length (ptV (killAt s.Ps p d))
    rw [kill_ptV]
    have : (killAt s.Ps p d).length = s.Ps.length := by simp [killAt]
    rw [this]
    exact far (by decide) h.parts
  · intro t ht
    obtain ⟨u, hu, ⟨rfl, hne⟩ | ⟨rfl, he⟩⟩ := kill_mem ht
    · refine (h.each t hu).kp k (fun hx => ?_) (fun x hx => ?_)
      · rcases hS hx with e | e
        · exact hne e
        · exact cells_map (h.each t hu).cells hmap e
      · rcases hS hx with rfl | rfl
        · rw [← hp0]; exact h.outT t0 ht0 t hu
        · exact h.outH t hu
    · have hu' := h.each u hu
      have hdd := hp u hu he
      refine ⟨?_, hu'.seg.kp k (fun x hx => ?_), hu'.fine, ?_, hu'.nlt⟩
      · have h1 := hu'.cells
        rw [he, hq] at h1
        simp at h1
        show w'.heap[u.p]? = some (.cells #[.pointer (some ⟨u.q, 0, none⟩), .int .u64 ((u.dead ||| 2 ^ d : Nat) : Int)] 132 (0, 0))
        rw [he, hq', hdd, h1.1]
      · rcases hS hx with rfl | rfl
        · rw [← he]; exact h.outT u hu u hu
        · exact h.outH u hu
      · show u.dead ||| 2 ^ d < 2 ^ u.T.length
        have e : u = t0 := p_one h.apart hu ht0 (he.trans hp0.symm)
        have hdT : d < u.T.length := by rw [e]; exact (homes_mem hh0).2.1
        exact Nat.or_lt_two_pow hu'.dlo (Nat.pow_lt_pow_right (by omega) hdT)
  · show HomIs w' s.hb (homL (killAt s.Ps p d)).length (homF (killAt s.Ps p d))
    rw [hlen, kill_homF hnd h.apart hx]
    exact hm
  · show (killAt s.Ps p d).length ≤ s.next
    have : (killAt s.Ps p d).length = s.Ps.length := by simp [killAt]
    rw [this]; exact h.cnt
  · have := h.all60
    show s.G.length + (homL (killAt s.Ps p d)).length ≤ 60
    omega
  · show (s.G.map Prod.fst ++ (homL (killAt s.Ps p d)).map Prod.fst).Nodup
    rw [hk]
    exact (List.Sublist.append (List.Sublist.refl _) (List.filter_sublist.map _)).nodup h.nodup
  · intro t ht
    obtain ⟨u, hu, ⟨rfl, _⟩ | ⟨rfl, _⟩⟩ := kill_mem ht
    · exact h.inT t hu
    · exact h.inT u hu
  · intro t ht
    obtain ⟨u, hu, ⟨rfl, _⟩ | ⟨rfl, _⟩⟩ := kill_mem ht
    · exact h.inS t hu
    · exact h.inS u hu
  · intro t ht
    obtain ⟨u, hu, ⟨rfl, _⟩ | ⟨rfl, _⟩⟩ := kill_mem ht
    · exact kill_outS (h.outT t hu)
    · exact kill_outS (h.outT u hu)
  · intro t ht
    obtain ⟨u, hu, ⟨rfl, _⟩ | ⟨rfl, _⟩⟩ := kill_mem ht
    · exact Nat.le_trans (h.hiLe t hu) k.size
    · exact Nat.le_trans (h.hiLe u hu) k.size
  · show (killAt s.Ps p d).Pairwise _
    unfold killAt
    rw [List.pairwise_map]
    refine h.apart.imp ?_
    intro a b hab
    split <;> split <;> exact hab
end Go.Proofs.YtpdoacfiiledcaaGreatDoor.Pak

set_option linter.unusedVariables false
set_option linter.unusedSimpArgs false
set_option maxRecDepth 8000
namespace Go.Proofs.YtpdoacfiiledcaaGreatDoor.Pak
open Go.RowKit Go.Proofs.YtpdoacfiiledcaaGreatDoor Go.Proofs.YtpdoacfiiledcaaGreatDoor.Spl SiftM

/-- Of the index's own cells these stay. -/
def Rest (s s' : PSt) : Prop := s'.buf = s.buf ∧ s'.fac = s.fac ∧ s'.fv = s.fv ∧ s'.last = s.last ∧ s'.lit = s.lit ∧ s'.left = s.left ∧ s'.mv = s.mv ∧ s'.R = s.R ∧ s'.hb = s.hb
theorem Rest.refl (s : PSt) : Rest s s := ⟨rfl, rfl, rfl, rfl, rfl, rfl, rfl, rfl, rfl⟩
theorem Rest.trans {a b c : PSt} (h : Rest a b) (k : Rest b c) : Rest a c := by
  obtain ⟨h1, h2, h3, h4, h5, h6, h7, h8, h9⟩ := h
  obtain ⟨k1, k2, k3, k4, k5, k6, k7, k8, k9⟩ := k
  exact ⟨k1.trans h1, k2.trans h2, k3.trans h3, k4.trans h4, k5.trans h5, k6.trans h6, k7.trans h7, k8.trans h8, k9.trans h9⟩
theorem SortT.sub {T T' : List Tx} (h : SortT T) (hs : T'.Sublist T) : SortT T' := List.Pairwise.sublist hs h

set_option maxHeartbeats 4000000 in
theorem drop_any (X B id : Nat) (O : List Nat) (s : PSt) (w : World) (h : PIs w X B O s) (hid : id ≤ 99999) :
    Calls Tryz.prog 141 #[.pointer (some ⟨X, 0, none⟩), .int .i64 (id : Int)] w fun e w' => e = .returned (.tuple #[]) ∧ ∃ s', PIs w' X B (grow O w w') s' ∧ s'.abs = s.abs.gone id ∧ Rest s s' ∧ Kp O w w' := by
  obtain ⟨x0, x6, x7, x8, x9, x10, xf⟩ := px_cells h
  have hG60 : s.G.length ≤ 60 := by have := h.all60; omega
  have hgat := gatAt_any X B id s.gv s.G s.gs w x7 h.gath h.sort hG60
  have hah := ahead_has s.G h.sort id
  -- behind the first half
  have half : ∀ (W : World) (s1 : PSt), PIs W X B O s1 → Kp O w W → s1.abs = { s.abs with T := s.G.filter fun t => !decide (t.1 = id) } → Rest s s1 →
      ∃ s2, dropP s1 id = s2 ∧ ∀ W', PIs W' X B O s2 → Kp O W W' → ∃ s', PIs W' X B (grow O w W') s' ∧ s'.abs = s.abs.gone id ∧ Rest s s' ∧ Kp O w W' := by
    intro W s1 h1 k1 a1 r1
    refine ⟨_, rfl, fun W' h2 k2 => ⟨_, h2.more (fun g hg => mem_grow.2 (.inl hg)), ?_, r1.trans ?_, k1.next k2⟩⟩
    · rw [dropP_abs h1, a1]; rfl
    · unfold dropP
      split <;> exact Rest.refl _
  have HH := hide h
  have HALF := hide half
  clear h half x0 x6 x8 x10
  by_cases hin : id ∈ s.G.map Prod.fst
  · obtain ⟨hlt, hat⟩ := hah.1 hin
    have hflt := cut_filter s.G HH.out.sort id hin
    rw [show decide (id ∈ s.G.map Prod.fst) = true by simpa using hin] at hgat
    obtain ⟨i, hi⟩ : ∃ i, aheadN s.G id = i := ⟨_, rfl⟩
    rw [hi] at hgat hlt hflt
    obtain ⟨n, hn⟩ : ∃ n, s.G.length = n := ⟨_, rfl⟩
    have HN := hide hn
    have HFL := hide hflt
    rw [hn] at hlt hG60
    have HX := hide HH.out.blk
    clear hah hat hi hflt hin hn
    go_enter Tryz.func141, Tryz.ntmps141
    go_wp2_with fail
    refine hgat.mono ?_
    rintro e w1 ⟨rfl, k1⟩
    have y7 := k1.cellv x7 (by simp)
    have y9 := k1.cellv x9 (by simp)
    have h1 := HH.out.kp k1 (by simp)
    have hrow := h1.gath.row
    rw [HN.out] at hrow
    have hdel := gdelete_any B n i s.gv _ w1 hrow hlt (by omega) (texts_one h1.gath)
    obtain ⟨a, c, eg, _⟩ := owns_forms hrow
    have HE := hide eg
    rw [eg] at y7 hdel
    have H1 := hide h1
    clear hgat h1 hrow eg
    go_wp2_with fail
    refine hdel.mono ?_
    rintro e w2 ⟨v2, rfl, ho2, hob2, k2⟩
    rw [← HE.out] at hob2 k2
    have hX2 : w2.heap[X]? = some (.cells (pxC s) 85 (0, 0)) := k2.heap H1.out.blk (fun hx => owns_ne_type H1.out.gath.row H1.out.blk (by decide) (by simpa using hx))
    have hf2 : w2.frozen? ⟨X, 7, none⟩ = false := by simp [World.frozen?, hX2]
    have hc2 : w2.cell? ⟨X, 7, none⟩ = some s.gv := by simp [World.cell?, hX2, pxC, pxA]
    obtain ⟨a2, c2, e2, _⟩ := owns_forms ho2
    subst e2
    obtain ⟨W3, hW3⟩ : ∃ W3, w2.setCell ⟨X, 7, none⟩ (.slice a2 (n - 1) c2) = W3 := ⟨_, rfl⟩
    have kX : Kp [X] w2 W3 := by rw [← hW3]; exact kp_set w2 X 7 _
    have hX3 : W3.heap[X]? = some (.cells (pxC { s with gv := .slice a2 (n - 1) c2, G := cutAt s.G i, gs := cutAt s.gs i }) 85 (0, 0)) := by
      rw [← hW3, heap_setCell_same w2 X 7 _ 85 _ hX2, pxC_set7]; rfl
    have k13 : Kp (X :: s.gv.ownBlock.toList) w1 W3 := (k2.mono (fun x hx => List.mem_cons_of_mem _ hx)).next (kX.mono (by simp))
    have hS13 : ∀ x ∈ X :: s.gv.ownBlock.toList, x = X ∨ s.gv.ownBlock = some x := fun x hx => by
      rcases List.mem_cons.1 hx with e | e
      · exact .inl e
      · exact .inr (by simpa using e)
    obtain ⟨_, _, _, hk9⟩ := H1.out.restG k13 hS13
    have hT3 : TextsIs W3 B (.slice a2 (n - 1) c2) (cutAt s.G i) (cutAt s.gs i) := by
      refine texts_cut H1.out.gath (by rw [HN.out]; exact hlt) ?_ hk9
      rw [HN.out]
      exact kX.owns ho2 (fun gg hgg hx => by
        simp at hx; subst hx
        exact owns_ne_type ho2 hX2 (by decide) hgg)
    have hs3 : PIs W3 X B O { s with gv := .slice a2 (n - 1) c2, G := cutAt s.G i, gs := cutAt s.gs i } := by
      have hsub := cut_sub s.G i
      refine H1.out.turnG k13 hS13 hX3 hT3 (fun t ht => H1.out.word t (mem_cut ht)) (H1.out.sort.sub hsub) ?_ ?_ (fun g hg => hg) ?_ ?_
      · have := hsub.length_le
        have := H1.out.all60
        omega
      · exact (List.Sublist.append (hsub.map _) (List.Sublist.refl _)).nodup H1.out.nodup
      · intro g hg
        rw [hob2] at hg
        exact ⟨H1.out.inG g hg, H1.out.outG g hg⟩
      · intro u hu g hg
        exact H1.out.inW u (mem_cut hu) g hg
    have kO : Kp O w W3 := (k1.mono (by simp)).next (k13.mono fun x hx => by
      rcases hS13 x hx with rfl | e
      · exact H1.out.inX
      · exact H1.out.inG x e)
    obtain ⟨s2, hs2, hfin⟩ := HALF.out W3 _ hs3 kO (by unfold PSt.abs; simp only; rw [HFL.out]) ⟨rfl, rfl, rfl, rfl, rfl, rfl, rfl, rfl, rfl⟩
    have H3 := hide hs3
    have HS2 := hide hs2
    have HFIN := hide hfin
    have z9 : W3.cell? ⟨X, 9, none⟩ = some (.map (some s.hb)) := (px_cells hs3).2.2.2.2.1
    obtain ⟨v, hlook, hv1, hv2⟩ := hs3.hom.look id (by omega)
    clear hdel ho2 hX2 hX3 hT3 hs3 hs2 hfin hk9 k13 hS13
    cases hf : homF s.Ps id with
    | none =>
      have e1 := hv2 hf
      rw [e1, show (homF s.Ps id).isSome = false by rw [hf]; rfl] at hlook
      have hd : s2 = { s with gv := .slice a2 (n - 1) c2, G := cutAt s.G i, gs := cutAt s.gs i } := by rw [← HS2.out]; unfold dropP; simp only [hf]
      clear hv1 hv2 e1
      go_wp2_with (simp only [hlook])
      go_end0
      refine ⟨rfl, HFIN.out _ ?_ ((Kp.refl _ _).alloc _)⟩
      rw [hd]
      exact H3.out.kp (S := []) ((Kp.refl _ _).alloc _) (by simp)
    | some x =>
      obtain ⟨p, d⟩ := x
      have e1 := hv1 (p, d) hf
      rw [e1, show (homF s.Ps id).isSome = true by rw [hf]; rfl] at hlook
      unfold homV at hlook
      simp only at hlook
      have hd : s2 = { { s with gv := .slice a2 (n - 1) c2, G := cutAt s.G i, gs := cutAt s.gs i } with Ps := killAt s.Ps p d } := by rw [← HS2.out]; unfold dropP; simp only [hf]
      have hnd : ((homL s.Ps).map Prod.fst).Nodup := (List.pairwise_append.1 HH.out.nodup).2.1
      have hx := (homF_some hnd id (p, d)).1 hf
      obtain ⟨t, ht, hh⟩ := mem_homL.1 hx
      have hm := homes_mem hh
      simp only at hm
      have hpt := H3.out.each t ht
      have hpc := hpt.cells
      rw [← hm.1] at hpc
      have hd60 : d < 60 := Nat.lt_of_lt_of_le hm.2.1 hpt.fine.len
      have hdl := hpt.dlt
      have htd : ∀ u ∈ s.Ps, u.p = p → u.dead = t.dead := fun u hu e => by rw [apart_eq HH.out.apart hu ht (by rw [e, hm.1])]
      have HPC := hide hpc
      have HHM := hide hh
      have HX3 := hide hx
      have HTD := hide htd
      obtain ⟨dead, hdead⟩ : ∃ dead, t.dead = dead := ⟨_, rfl⟩
      rw [hdead] at hpc hdl HPC HTD
      obtain ⟨p0, p1, pf0, pf1⟩ := rd_cells hpc
      obtain ⟨W4, hW4⟩ : ∃ W4, W3.alloc (.cells #[.pointer (some ⟨p, 0, none⟩), .int .i64 (d : Int)] 312) = W4 := ⟨_, rfl⟩
      have k34 : Kp [] W3 W4 := by rw [← hW4]; exact (Kp.refl _ _).alloc _
      have hn4 : W4.heap[W3.heap.size]? = some (.cells #[.pointer (some ⟨p, 0, none⟩), .int .i64 (d : Int)] 312 (0, 0)) := by rw [← hW4]; exact heap_alloc_new W3 _
      obtain ⟨b0, b1, _, _⟩ := rd_cells hn4
      have q1 := k34.cellv p1 (by simp)
      have qf : W4.frozen? ⟨p, 1, none⟩ = false := by
        have := k34.heap hpc (by simp)
        simp [World.frozen?, this]
      clear hv1 hv2 e1 hpt hpc hh hm htd hx p0 pf0 pf1 hn4
      have z94 := k34.cellv z9 (by simp)
      obtain ⟨W5, hW5⟩ : ∃ W5, W4.drew.setCell ⟨p, 1, none⟩ (.int .u64 ((dead ||| 2 ^ d : Nat) : Int)) = W5 := ⟨_, rfl⟩
      have k45 : Kp [p] W4 W5 := by rw [← hW5]; exact Kp.next (b := W4.drew) ⟨rfl, rfl, rfl, Nat.le_refl _, fun _ _ _ => rfl⟩ (kp_set W4.drew p 1 _)
      have hp5 : W5.heap[p]? = some (.cells #[.pointer (some ⟨t.q, 0, none⟩), .int .u64 ((dead ||| 2 ^ d : Nat) : Int)] 132 (0, 0)) := by
        rw [← hW5, heap_setCell_same W4.drew p 1 _ 132 _ (k34.heap HPC.out (by simp))]; rfl
      have k35 : Kp [p] W3 W5 := (k34.mono (by simp)).next k45
      obtain ⟨es, ck, hmap⟩ := H3.out.hmap
      have hm5 : HomIs W5 s.hb (homL s.Ps).length (homF s.Ps) := H3.out.hom.kp k35 (fun hx => by simp at hx; exact cells_map HPC.out hmap hx.symm)
      have hX5 : X ≠ p := cells_ne H3.out.blk HPC.out (by decide)
      have z95 : W5.cell? ⟨X, 9, none⟩ = some (.map (some s.hb)) := k45.cellv z94 (by simpa using hX5)
      obtain ⟨W6, hdrop, hm6, k6⟩ := hm5.drop id (by omega) 0
      rw [hf] at hm6
      have k36 : Kp [p, s.hb] W3 W6 := (k35.mono (by simp)).next (k6.mono (by simp))
      have hp6 := k6.heap hp5 (fun hx => by simp at hx; exact cells_map HPC.out hmap hx)
      have hnew := H3.out.kill HX3.out HTD.out hd60 k36 ⟨_, HPC.out, hp6⟩ hm6
      have kO6 : Kp O W3 W6 := k36.mono fun x hx => by
        simp at hx
        rcases hx with rfl | rfl
        · have := H3.out.inT t ht
          rw [show t.p = x from (homes_mem HHM.out).1.symm] at this
          exact this
        · exact H3.out.inH
      have HNEW := hide hnew
      clear hm5 hm6 hp5 hp6 hnew hmap
      go_wp2_with (simp only [hlook])
      go_region_with (go_at_call 150; refine (with_any dead d W4.drew hdl (by omega)).mono ?_; rintro r w5 ⟨rfl, rfl⟩)
      all_goals
        try rw [hW5]
        go_wp2_with (simp only [hdrop])
        go_end0
        exact ⟨rfl, HFIN.out _ (by rw [hd]; exact HNEW.out) kO6⟩
  · have hno : decide (id ∈ s.G.map Prod.fst) = false := by simpa using hin
    rw [hno] at hgat
    have hflt := filter_not s.G id hin
    have HFL := hide hflt
    clear hah hflt hin hno
    go_enter Tryz.func141, Tryz.ntmps141
    go_wp2_with fail
    refine hgat.mono ?_
    rintro e W3 ⟨rfl, k1⟩
    have z9 := k1.cellv x9 (by simp)
    have hs3 := HH.out.kp k1 (by simp)
    obtain ⟨s2, hs2, hfin⟩ := HALF.out W3 _ hs3 (k1.mono (by simp)) (by unfold PSt.abs; simp only; rw [HFL.out]) (Rest.refl _)
    have H3 := hide hs3
    have HS2 := hide hs2
    have HFIN := hide hfin
    obtain ⟨v, hlook, hv1, hv2⟩ := hs3.hom.look id (by omega)
    clear hgat hs3 hs2 hfin
    cases hf : homF s.Ps id with
    | none =>
      have e1 := hv2 hf
      rw [e1, show (homF s.Ps id).isSome = false by rw [hf]; rfl] at hlook
      have hd : s2 = s := by rw [← HS2.out]; unfold dropP; simp only [hf]
      clear hv1 hv2 e1
      go_wp2_with (simp only [hlook])
      go_end0
      refine ⟨rfl, HFIN.out _ ?_ ((Kp.refl _ _).alloc _)⟩
      rw [hd]
      exact H3.out.kp (S := []) ((Kp.refl _ _).alloc _) (by simp)
    | some x =>
      obtain ⟨p, d⟩ := x
      have e1 := hv1 (p, d) hf
      rw [e1, show (homF s.Ps id).isSome = true by rw [hf]; rfl] at hlook
      unfold homV at hlook
      simp only at hlook
      have hd : s2 = { s with Ps := killAt s.Ps p d } := by rw [← HS2.out]; unfold dropP; simp only [hf]
      have hnd : ((homL s.Ps).map Prod.fst).Nodup := (List.pairwise_append.1 HH.out.nodup).2.1
      have hx := (homF_some hnd id (p, d)).1 hf
      obtain ⟨t, ht, hh⟩ := mem_homL.1 hx
      have hm := homes_mem hh
      simp only at hm
      have hpt := H3.out.each t ht
      have hpc := hpt.cells
      rw [← hm.1] at hpc
      have hd60 : d < 60 := Nat.lt_of_lt_of_le hm.2.1 hpt.fine.len
      have hdl := hpt.dlt
      have htd : ∀ u ∈ s.Ps, u.p = p → u.dead = t.dead := fun u hu e => by rw [apart_eq HH.out.apart hu ht (by rw [e, hm.1])]
      have HPC := hide hpc
      have HHM := hide hh
      have HX3 := hide hx
      have HTD := hide htd
      obtain ⟨dead, hdead⟩ : ∃ dead, t.dead = dead := ⟨_, rfl⟩
      rw [hdead] at hpc hdl HPC HTD
      obtain ⟨p0, p1, pf0, pf1⟩ := rd_cells hpc
      obtain ⟨W4, hW4⟩ : ∃ W4, W3.alloc (.cells #[.pointer (some ⟨p, 0, none⟩), .int .i64 (d : Int)] 312) = W4 := ⟨_, rfl⟩
      have k34 : Kp [] W3 W4 := by rw [← hW4]; exact (Kp.refl _ _).alloc _
      have hn4 : W4.heap[W3.heap.size]? = some (.cells #[.pointer (some ⟨p, 0, none⟩), .int .i64 (d : Int)] 312 (0, 0)) := by rw [← hW4]; exact heap_alloc_new W3 _
      obtain ⟨b0, b1, _, _⟩ := rd_cells hn4
      have q1 := k34.cellv p1 (by simp)
      have qf : W4.frozen? ⟨p, 1, none⟩ = false := by
        have := k34.heap hpc (by simp)
        simp [World.frozen?, this]
      clear hv1 hv2 e1 hpt hpc hh hm htd hx p0 pf0 pf1 hn4
      have z94 := k34.cellv z9 (by simp)
      obtain ⟨W5, hW5⟩ : ∃ W5, W4.drew.setCell ⟨p, 1, none⟩ (.int .u64 ((dead ||| 2 ^ d : Nat) : Int)) = W5 := ⟨_, rfl⟩
      have k45 : Kp [p] W4 W5 := by rw [← hW5]; exact Kp.next (b := W4.drew) ⟨rfl, rfl, rfl, Nat.le_refl _, fun _ _ _ => rfl⟩ (kp_set W4.drew p 1 _)
      have hp5 : W5.heap[p]? = some (.cells #[.pointer (some ⟨t.q, 0, none⟩), .int .u64 ((dead ||| 2 ^ d : Nat) : Int)] 132 (0, 0)) := by
        rw [← hW5, heap_setCell_same W4.drew p 1 _ 132 _ (k34.heap HPC.out (by simp))]; rfl
      have k35 : Kp [p] W3 W5 := (k34.mono (by simp)).next k45
      obtain ⟨es, ck, hmap⟩ := H3.out.hmap
      have hm5 : HomIs W5 s.hb (homL s.Ps).length (homF s.Ps) := H3.out.hom.kp k35 (fun hx => by simp at hx; exact cells_map HPC.out hmap hx.symm)
      have hX5 : X ≠ p := cells_ne H3.out.blk HPC.out (by decide)
      have z95 : W5.cell? ⟨X, 9, none⟩ = some (.map (some s.hb)) := k45.cellv z94 (by simpa using hX5)
      obtain ⟨W6, hdrop, hm6, k6⟩ := hm5.drop id (by omega) 0
      rw [hf] at hm6
      have k36 : Kp [p, s.hb] W3 W6 := (k35.mono (by simp)).next (k6.mono (by simp))
      have hp6 := k6.heap hp5 (fun hx => by simp at hx; exact cells_map HPC.out hmap hx)
      have hnew := H3.out.kill HX3.out HTD.out hd60 k36 ⟨_, HPC.out, hp6⟩ hm6
      have kO6 : Kp O W3 W6 := k36.mono fun x hx => by
        simp at hx
        rcases hx with rfl | rfl
        · have := H3.out.inT t ht
          rw [show t.p = x from (homes_mem HHM.out).1.symm] at this
          exact this
        · exact H3.out.inH
      have HNEW := hide hnew
      clear hm5 hm6 hp5 hp6 hnew hmap
      go_wp2_with (simp only [hlook])
      go_region_with (go_at_call 150; refine (with_any dead d W4.drew hdl (by omega)).mono ?_; rintro r w5 ⟨rfl, rfl⟩)
      all_goals
        try rw [hW5]
        go_wp2_with (simp only [hdrop])
        go_end0
        exact ⟨rfl, HFIN.out _ (by rw [hd]; exact HNEW.out) kO6⟩
end Go.Proofs.YtpdoacfiiledcaaGreatDoor.Pak

