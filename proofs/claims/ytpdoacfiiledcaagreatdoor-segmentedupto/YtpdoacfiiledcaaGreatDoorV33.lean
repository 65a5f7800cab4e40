import Derived.Test.YtpdoacfiiledcaaGreatDoorV32
import Derived.Test.YtpdoacfiiledcaaGreatDoorV30
set_option linter.unusedVariables false
set_option linter.unusedSimpArgs false
set_option maxRecDepth 8000
namespace Go.Proofs.YtpdoacfiiledcaaGreatDoor.Pak
open Go.RowKit Go.Proofs.YtpdoacfiiledcaaGreatDoor Go.Proofs.YtpdoacfiiledcaaGreatDoor.Spl SiftM

theorem PIs.fine {w : World} {X B : Nat} {O : List Nat} {s : PSt} (h : PIs w X B O s) : Fine s.G := by
  have := h.all60
  exact ⟨by omega, rs_sorted s.G 0 h.sort (fun _ _ => Nat.zero_le _), fun t ht => (h.word t ht).1, fun t ht => (h.word t ht).2.1, fun t ht => (h.word t ht).2.2.1, fun t ht => (h.word t ht).2.2.2⟩
theorem homes_zero {t : PPt} (h : t.dead = 0) : t.homes.map Prod.fst = t.T.map Prod.fst := by
  unfold PPt.homes
  rw [h]
  have e : ((List.range t.T.length).filter fun d => !(0 : Nat).testBit d) = List.range t.T.length := by
    rw [List.filter_eq_self]
    intro d _
    simp
  rw [e, List.map_map]
  apply List.ext_getElem
  · simp
  · intro i h1 h2
    have hi : i < t.T.length := by simpa using h1
    simp [hi]
theorem flags_zero {t : PPt} (h : t.dead = 0) : t.flags = List.replicate t.T.length false := by
  unfold PPt.flags
  rw [h]
  apply List.ext_getElem
  · simp
  · intro i h1 h2; simp
def flushedP (s : PSt) (t : PPt) (pv : Value) : PSt := { s with gv := .slice none 0 0, G := [], gs := [], pv := pv, Ps := s.Ps ++ [t], next := s.next + 1 }
/-- Behind a flush the program's index is as it must be. -/
theorem flushP_is {w w' : World} {X B : Nat} {O : List Nat} {s : PSt} {t : PPt} {pv : Value} (h : PIs w X B O s) (htn : t.num = s.next) (htT : t.T = s.G) (htd : t.dead = 0) (hnew : NewPt w w' t) (hX : w'.heap[X]? = some (.cells (pxC (flushedP s t pv)) 85 (0, 0)))
    (hP : w'.ownsRow B 128 1 pv (s.Ps.length + 1) (ptV s.Ps ++ [.pointer (some ⟨t.p, 0, none⟩)])) (hm : HomIs w' s.hb (homFold s.G t.p (bitsOf (aliveN s.G.length 0)) ((homL s.Ps).length, homF s.Ps)).1 (homFold s.G t.p (bitsOf (aliveN s.G.length 0)) ((homL s.Ps).length, homF s.Ps)).2)
    (hpv : ∀ g, pv.ownBlock = some g → s.pv.ownBlock = some g ∨ t.hi ≤ g) (k : Kp (X :: s.hb :: s.pv.ownBlock.toList) w w') : PIs w' X B (grow O w w') (flushedP s t pv) := by
  have hO : ∀ g ∈ O, g ∈ grow O w w' := fun g hg => mem_grow.2 (.inl hg)
  have e : homL (s.Ps ++ [t]) = homL s.Ps ++ t.homes := by unfold homL; simp
  have hids : (homL (s.Ps ++ [t])).map Prod.fst = (homL s.Ps).map Prod.fst ++ s.G.map Prod.fst := by
    rw [e, List.map_append, homes_zero htd, htT]
  have hnd : ((homL (s.Ps ++ [t])).map Prod.fst).Nodup := by
    rw [hids]
    exact (List.perm_append_comm.nodup_iff).1 h.nodup
  have hlen : (homL (s.Ps ++ [t])).length = s.G.length + (homL s.Ps).length := by
    have := congrArg List.length hids
    simp at this
    omega
  have hhh := hold_homes (Ps := s.Ps) (t := t) (by rw [htT]; exact h.fine.len) (by rw [htd]; decide) hnd
  rw [htT, htd] at hhh
  rw [hhh.1, hhh.2] at hm
  have hz := k.size
  have hlo := hnew.lo
  have hhi := hnew.hi
  have hpl := hnew.pl
  have hph := hnew.ph
  have hle := hnew.le
  have hXlt := heap_lt h.blk
  have hHlt := h.hom.lt
  have hplt : ∀ u ∈ s.Ps, u.p < w.heap.size := fun u hu => heap_lt (h.each u hu).cells
  have hS : ∀ x ∈ X :: s.hb :: s.pv.ownBlock.toList, x = X ∨ x = s.hb ∨ s.pv.ownBlock = some x := fun x hx => by
    rcases List.mem_cons.1 hx with e | hx
    · exact .inl e
    · rcases List.mem_cons.1 hx with e | hx
      · exact .inr (.inl e)
      · exact .inr (.inr (by simpa using hx))
  obtain ⟨es, ck, hmap⟩ := h.hmap
  have hmem : ∀ u ∈ s.Ps ++ [t], u ∈ s.Ps ∨ u = t := fun u hu => by simpa using hu
  have hout : ∀ g, OutS s.Ps g → g < t.lo ∨ t.hi ≤ g → OutS (s.Ps ++ [t]) g := fun g h1 h2 u hu => by
    rcases hmem u hu with hu | rfl
    · exact h1 u hu
    · exact h2
  refine ⟨hX, h.rd, Nat.le_trans h.low k.size, TextsIs.nil _ _, fun t ht => by simp [flushedP] at ht, List.Pairwise.nil, ?_, ?_, hm, ?_, ?_, ?_, hO X h.inX, fun g hg => by simp [flushedP, Value.ownBlock] at hg, fun u hu => by simp [flushedP] at hu, ?_, hO _ h.inH, ?_, ?_, ?_, fun g hg => by simp [flushedP, Value.ownBlock] at hg, ?_, ?_, ?_, ?_, ?_⟩
  · show w'.ownsRow B 128 1 pv (s.Ps ++ [t]).length (ptV (s.Ps ++ [t]))
    rw [List.length_append]
    have : ptV (s.Ps ++ [t]) = ptV s.Ps ++ [.pointer (some ⟨t.p, 0, none⟩)] := by simp [ptV]
    rw [this]
    exact hP
  · intro u hu
    rcases hmem u hu with hu | rfl
    · refine (h.each u hu).kp k (fun hx => ?_) (fun x hx => ?_)
      · rcases hS _ hx with e | e | e
        · exact cells_ne (h.each u hu).cells h.blk (by decide) e
        · exact cells_map (h.each u hu).cells hmap e
        · exact owns_ne_type h.parts (h.each u hu).cells (by decide) e
      · rcases hS x hx with rfl | rfl | e
        · exact h.outX u hu
        · exact h.outH u hu
        · exact h.outP x e u hu
    · exact hnew.is
  · show (s.Ps ++ [t]).length ≤ s.next + 1
    have := h.cnt
    simp; omega
  · show 0 + (homL (s.Ps ++ [t])).length ≤ 60
    have := h.all60
    omega
  · show ([] ++ (homL (s.Ps ++ [t])).map Prod.fst).Nodup
    exact hnd
  · intro g hg
    rcases hpv g hg with h1 | h1
    · exact hO g (h.inP g h1)
    · exact mem_grow.2 (.inr ⟨by omega, (hP.lt g hg).2⟩)
  · intro u hu
    rcases hmem u hu with hu | rfl
    · exact hO _ (h.inT u hu)
    · exact mem_grow.2 (.inr ⟨by omega, hph⟩)
  · intro u hu x h1 h2
    rcases hmem u hu with hu | rfl
    · exact hO x (h.inS u hu x h1 h2)
    · exact mem_grow.2 (.inr ⟨by omega, by omega⟩)
  · exact hout X h.outX (.inl (by omega))
  · intro g hg
    rcases hpv g hg with h1 | h1
    · exact hout g (h.outP g h1) (.inl (by have := (h.parts.lt g h1).2; omega))
    · refine hout g (fun u hu => .inr ?_) (.inr h1)
      have := h.hiLe u hu
      omega
  · exact hout s.hb h.outH (.inl (by omega))
  · intro u hu
    rcases hmem u hu with hu | rfl
    · exact hout _ (h.outT u hu) (.inl (by have := hplt u hu; omega))
    · refine hout _ (fun v hv => .inr ?_) (.inr hpl)
      have := h.hiLe v hv
      omega
  · intro u hu
    rcases hmem u hu with hu | rfl
    · exact Nat.le_trans (h.hiLe u hu) hz
    · exact hhi
  · show (s.Ps ++ [t]).Pairwise _
    rw [List.pairwise_append]
    refine ⟨h.apart, List.pairwise_singleton _ _, fun u hu v hv => ?_⟩
    simp at hv
    subst hv
    have := hplt u hu
    omega
theorem flushP_abs {w : World} {X B : Nat} {O : List Nat} {s : PSt} {t : PPt} {pv : Value} (h : PIs w X B O s) (hne : s.G ≠ []) (htn : t.num = s.next) (htT : t.T = s.G) (htd : t.dead = 0) : (flushedP s t pv).abs = s.abs.flush := by
  have hso := sortX_eq (List.Perm.refl s.G) h.sort
  unfold DSt.flush
  have e : s.abs.T ≠ [] := hne
  rw [if_neg e]
  unfold PSt.abs flushedP
  simp only [List.map_append, List.map_cons, List.map_nil]
  unfold PPt.abs
  rw [htn, htT, flags_zero htd, htT, ← hso]
set_option maxHeartbeats 2000000 in
theorem flush_any (X B : Nat) (O : List Nat) (s : PSt) (w : World) (h : PIs w X B O s) (hTab : Tab64 w) (hB0 : 0 < B) (hnx : s.next < 1000000) :
    Calls Tryz.prog 29 #[.pointer (some ⟨X, 0, none⟩)] w fun e w' => e = .returned (.bool (!decide (s.abs.T = []))) ∧ ∃ s', PIs w' X B (grow O w w') s' ∧ s'.abs = s.abs.flush ∧ Rest s s' ∧ Kp O w w' := by
  obtain ⟨x0, x6, x7, x8, x9, x10, xf⟩ := px_cells h
  obtain ⟨ag, cg, eg, _⟩ := owns_forms h.gath.row
  obtain ⟨n, hn⟩ : ∃ n, s.G.length = n := ⟨_, rfl⟩
  rw [hn] at eg
  by_cases hG : s.G = []
  · have hn0 : n = 0 := by rw [← hn, hG]; rfl
    subst hn0
    rw [eg] at x7
    have e : s.abs.T = [] := hG
    have HH := hide h
    rw [show decide (s.abs.T = []) = true by simpa using e]
    clear h
    go_enter Tryz.func29, Tryz.ntmps29
    go_wp2_with fail
    go_ret
    exact ⟨rfl, s, HH.out.more (fun g hg => mem_grow.2 (.inl hg)), by unfold DSt.flush; rw [if_pos e], Rest.refl _, Kp.refl _ _⟩
  · have hnp : 0 < n := by rw [← hn]; exact List.length_pos_iff.2 hG
    have hn1 : ((n : Int) == 0) = false := by rw [beq_eq_false_iff_ne]; omega
    have e : ¬ s.abs.T = [] := hG
    rw [show decide (s.abs.T = []) = false by simpa using e]
    have hc60 : (homL s.Ps).length ≤ 1000000 := by have := h.all60; omega
    have hlay := lay_any X B (homL s.Ps).length 0 s s.G s.gv s.gs (homF s.Ps) w h.blk h.parts h.gath h.fine h.hom hTab hB0 h.low (by have := h.cnt; omega) hc60 (by omega) (Nat.two_pow_pos _)
    have HH := hide h
    rw [eg] at x7
    rw [eg] at hlay
    clear h hTab x0 x6 x8 x9 x10
    go_enter Tryz.func29, Tryz.ntmps29
    go_wp2_with fail
    refine hlay.mono ?_
    rintro r w1 ⟨rfl, t, pv, ⟨htn, htT, htd⟩, hnew, hX1, hP1, hm1, hpv, k1⟩
    have yf : w1.frozen? ⟨X, 7, none⟩ = false := by simp [World.frozen?, hX1]
    have y7 : w1.cell? ⟨X, 7, none⟩ = some (.slice ag n cg) := by simp [World.cell?, hX1, pxC, pxA]
    have HX1 := hide hX1
    have HP1 := hide hP1
    have HM1 := hide hm1
    have HNEW := hide hnew
    clear hlay hX1 hP1 hm1 hnew
    go_wp2_with fail
    go_ret
    obtain ⟨W2, hW2⟩ : ∃ W2, w1.setCell ⟨X, 7, none⟩ (.slice none 0 0) = W2 := ⟨_, rfl⟩
    rw [hW2]
    have kX : Kp [X] w1 W2 := by rw [← hW2]; exact kp_set w1 X 7 _
    have hX2 : W2.heap[X]? = some (.cells (pxC (flushedP s t pv)) 85 (0, 0)) := by
      rw [← hW2, heap_setCell_same w1 X 7 _ 85 _ HX1.out, pxC_set7]; rfl
    have hXlt := heap_lt HH.out.blk
    have hlo := HNEW.out.lo
    have hpl := HNEW.out.pl
    have hle := HNEW.out.le
    have hz2 := kX.size
    have hnew2 : NewPt w W2 t := ⟨HNEW.out.lo, Nat.le_trans HNEW.out.hi kX.size, HNEW.out.pl, Nat.lt_of_lt_of_le HNEW.out.ph kX.size, HNEW.out.le, HNEW.out.is.kp kX (by simp; omega) (fun x hx => by simp at hx; subst hx; exact .inl (by omega))⟩
    obtain ⟨es, ck, hmap⟩ := HM1.out.block
    have hfin := flushP_is HH.out htn htT htd hnew2 hX2 (kX.owns HP1.out (fun gg hgg hx => by
      simp at hx; subst hx
      exact owns_ne_type HP1.out HX1.out (by decide) hgg)) (HM1.out.kp kX (fun hx => by simp at hx; exact cells_map HX1.out hmap hx.symm)) hpv (k1.next (kX.mono (by simp)))
    refine ⟨rfl, _, hfin, flushP_abs HH.out hG htn htT htd, ⟨rfl, rfl, rfl, rfl, rfl, rfl, rfl, rfl, rfl⟩, (k1.next (kX.mono (by simp))).mono fun x hx => ?_⟩
    rcases List.mem_cons.1 hx with rfl | hx
    · exact HH.out.inX
    · rcases List.mem_cons.1 hx with rfl | hx
      · exact HH.out.inH
      · exact HH.out.inP x (by simpa using hx)
end Go.Proofs.YtpdoacfiiledcaaGreatDoor.Pak

set_option linter.unusedVariables false
set_option linter.unusedSimpArgs false
set_option maxRecDepth 8000
namespace Go.Proofs.YtpdoacfiiledcaaGreatDoor.Pak
open Go.RowKit Go.Proofs.YtpdoacfiiledcaaGreatDoor Go.Proofs.YtpdoacfiiledcaaGreatDoor.Spl SiftM

theorem ins_sorted (T : List Tx) (hs : SortT T) (t : Tx) (hno : t.1 ∉ T.map Prod.fst) : SortT (insAt T (aheadN T t.1) t) := by
  have hat := ahead_at T hs t.1
  unfold SortT insAt
  rw [List.append_assoc, List.pairwise_append]
  have hle := ahead_le T t.1
  refine ⟨hs.sublist (List.take_sublist _ _), ?_, ?_⟩
  · rw [List.singleton_append, List.pairwise_cons]
    refine ⟨fun u hu => ?_, hs.sublist (List.drop_sublist _ _)⟩
    obtain ⟨i, hi, rfl⟩ := List.mem_iff_getElem.1 hu
    rw [List.length_drop] at hi
    rw [List.getElem_drop]
    have h1 : ¬ T[aheadN T t.1 + i].1 < t.1 := fun h => by
      have := (hat (aheadN T t.1 + i) (by omega)).1 h
      omega
    have h2 : T[aheadN T t.1 + i].1 ≠ t.1 := fun e => hno (List.mem_map.2 ⟨_, List.getElem_mem _, e⟩)
    omega
  · intro u hu v hv
    obtain ⟨i, hi, rfl⟩ := List.mem_iff_getElem.1 hu
    rw [List.length_take] at hi
    rw [List.getElem_take]
    have h1 := (hat i (by omega)).2 (by omega)
    rcases List.mem_append.1 hv with h | h
    · simp at h; subst h; exact h1
    · obtain ⟨j, hj, rfl⟩ := List.mem_iff_getElem.1 h
      rw [List.length_drop] at hj
      rw [List.getElem_drop]
      exact List.pairwise_iff_getElem.1 hs i (aheadN T t.1 + j) (by omega) (by omega) (by omega)
set_option maxHeartbeats 4000000 in
theorem gather_any (X B id : Nat) (O : List Nat) (s : PSt) (ws : List (List UInt8)) (a : Option Addr) (m c : Nat) (w : World) (h : PIs w X B O s) (hu : w.ownsRow B 9 1 (.slice a m c) ws.length (strV ws)) (hun : ∀ g, (Value.slice a m c).ownBlock = some g → g ∉ O) (hid : id ≤ 99999)
    (hno : id ∉ s.abs.ids) (h60 : s.abs.all.length < 60) (hw : ws.length ≤ 60 ∧ (lenF ws ≤ 120 ∧ sumL ws ≤ 121) ∧ ∀ x ∈ ws, isWord x = true) :
    Calls Tryz.prog 142 #[.pointer (some ⟨X, 0, none⟩), .agg #[.int .i64 (id : Int), .slice a m c]] w fun e w' => e = .returned (.tuple #[]) ∧ ∃ s', PIs w' X B (grow O w w' ++ (Value.slice a m c).ownBlock.toList) s' ∧ s'.abs = { s.abs with T := insAt s.G (aheadN s.G id) (id, ws) } ∧ (s'.buf = s.buf ∧ s'.fac = s.fac ∧ s'.fv = s.fv ∧ s'.last = s.last ∧ s'.lit = s.lit ∧ s'.left = s.left ∧ s'.mv = s.mv ∧ s'.R = s.R ∧ s'.hb = s.hb) ∧ Kp O w w' := by
  obtain ⟨x0, x6, x7, x8, x9, x10, xf⟩ := px_cells h
  have hG60 : s.G.length ≤ 60 := by have := h.all60; omega
  obtain ⟨W1, hW1⟩ : ∃ W1, w.alloc (.cells #[.int .i64 (id : Int), .slice a m c] 226) = W1 := ⟨_, rfl⟩
  have k1 : Kp [] w W1 := by rw [← hW1]; exact (Kp.refl _ _).alloc _
  have hn1 : W1.heap[w.heap.size]? = some (.cells #[.int .i64 (id : Int), .slice a m c] 226 (0, 0)) := by rw [← hW1]; exact heap_alloc_new w _
  obtain ⟨b0, b1, _, _⟩ := rd_cells hn1
  have h1 := h.kp k1 (by simp)
  have hgat := gatAt_any X B id s.gv s.G s.gs W1 (k1.cellv x7 (by simp)) h1.gath h1.sort hG60
  have hle := ahead_le s.G id
  have hsrt := ins_sorted s.G h.sort (id, ws) (fun e => hno (by rw [abs_ids]; exact List.mem_append.2 (.inl e)))
  simp only at hsrt
  obtain ⟨i, hi⟩ : ∃ i, aheadN s.G id = i := ⟨_, rfl⟩
  rw [hi] at hgat hle hsrt ⊢
  have HSRT := hide hsrt
  have HU := hide hu
  clear hsrt hu
  obtain ⟨n, hn⟩ : ∃ n, s.G.length = n := ⟨_, rfl⟩
  rw [hn] at hle hG60
  have H1 := hide h1
  have HN := hide hn
  have HN1 := hide hn1
  clear h1 h x0 x6 x8 x9 x10 hn hn1
  go_enter Tryz.func142, Tryz.ntmps142
  go_wp2_with fail
  refine hgat.mono ?_
  rintro e w2 ⟨rfl, k2⟩
  have h2 := H1.out.kp k2 (by simp)
  have y7 : w2.cell? ⟨X, 7, none⟩ = some s.gv := (px_cells h2).2.2.1
  have hrow := h2.gath.row
  rw [HN.out] at hrow
  obtain ⟨ag, cg, eg, _⟩ := owns_forms hrow
  have HE := hide eg
  have d0 := k2.cellv b0 (by simp)
  have d1 := k2.cellv b1 (by simp)
  rw [eg] at y7
  have k23 : Kp [] w2 (w2.alloc (.cells #[.int .i64 (id : Int), .slice a m c] 226)).drew := Kp.next (b := w2.alloc (.cells #[.int .i64 (id : Int), .slice a m c] 226)) ((Kp.refl _ _).alloc _) ⟨rfl, rfl, rfl, Nat.le_refl _, fun _ _ _ => rfl⟩
  have hv3 : (w2.alloc (.cells #[.int .i64 (id : Int), .slice a m c] 226)).drew.heap[w2.heap.size]? = some (.cells #[.int .i64 (id : Int), .slice a m c] 226 (0, 0)) := heap_alloc_new w2 _
  have h3 := h2.kp k23 (by simp)
  have hrow3 := h3.gath.row
  rw [HN.out] at hrow3
  have hgl : s.gv.ownBlock ≠ some w2.heap.size := fun e => by
    have := (hrow.lt _ e).2
    omega
  have hins := ginsert_any B n i w2.heap.size s.gv _ _ _ _ hrow3 hle (by omega) h3.low hv3 hgl (by simp [Value.oneCell']) (texts_one h3.gath)
  have H3 := hide h3
  obtain ⟨ob, hob⟩ : ∃ ob, s.gv.ownBlock = ob := ⟨_, rfl⟩
  rw [hob, eg] at hins
  have HOB := hide hob
  have hXg : Hid (s.gv.ownBlock ≠ some X) := owns_ne_type h2.gath.row h2.blk (by decide)
  have hX7 : ∀ (u : World), Kp ob.toList (w2.alloc (.cells #[.int .i64 (id : Int), .slice a m c] 226)).drew u → u.heap[X]? = some (.cells (pxC s) 85 (0, 0)) := fun u ku => ku.heap H3.out.blk (fun hx => hXg.out (by rw [HOB.out]; simpa using hx))
  have hX8 : ∀ (u : World), u.heap[X]? = some (.cells (pxC s) 85 (0, 0)) → u.cell? ⟨X, 7, none⟩ = some s.gv ∧ u.frozen? ⟨X, 7, none⟩ = false := fun u hx => by
    constructor
    · simp [World.cell?, hx, pxC, pxA]
    · simp [World.frozen?, hx]
  have HX7 := hide hX7
  have HX8 := hide hX8
  clear hgat h2 hrow h3 hrow3 hv3 hob eg hX7 hX8
  have y7' : ∀ o, (w2.alloc o).cell? ⟨X, 7, none⟩ = some (.slice ag n cg) := fun o => by rw [World.cell?_alloc_past _ _ _ (World.block_lt_of_cell? w2 _ y7)]; exact y7
  have d0' : ∀ o, (w2.alloc o).cell? ⟨w.heap.size, 0, none⟩ = some (.int .i64 (id : Int)) := fun o => by rw [World.cell?_alloc_past _ _ _ (World.block_lt_of_cell? w2 _ d0)]; exact d0
  have d1' : ∀ o, (w2.alloc o).cell? ⟨w.heap.size, 1, none⟩ = some (.slice a m c) := fun o => by rw [World.cell?_alloc_past _ _ _ (World.block_lt_of_cell? w2 _ d1)]; exact d1
  go_wp2_with fail
  go_region_with (go_at_call 249; refine hins.mono ?_; rintro r w5 ⟨v5, rfl, ho5, hb5, k5⟩; have z5 := HX8.out w5 (HX7.out w5 k5); obtain ⟨z6, z7⟩ := z5; obtain ⟨a5, c5, e5, _⟩ := owns_forms ho5; subst e5)
  all_goals
    go_end0
    obtain ⟨W6, hW6⟩ : ∃ W6, w5.setCell ⟨X, 7, none⟩ (.slice a5 (n + 1) c5) = W6 := ⟨_, rfl⟩
    rw [hW6]
    have kX : Kp [X] w5 W6 := by rw [← hW6]; exact kp_set w5 X 7 _
    have hX5 := HX7.out w5 k5
    have hX6 : W6.heap[X]? = some (.cells (pxC { s with gv := .slice a5 (n + 1) c5, G := insAt s.G i (id, ws), gs := insAt s.gs i (.slice a m c) }) 85 (0, 0)) := by
      rw [← hW6, heap_setCell_same w5 X 7 _ 85 _ hX5, pxC_set7]; rfl
    rw [← HOB.out] at k5 hb5
    have k36 : Kp (X :: s.gv.ownBlock.toList) (w2.alloc (.cells #[.int .i64 (id : Int), .slice a m c] 226)).drew W6 := (k5.mono (fun x hx => List.mem_cons_of_mem _ hx)).next (kX.mono (by simp))
    have hS36 : ∀ x ∈ X :: s.gv.ownBlock.toList, x = X ∨ s.gv.ownBlock = some x := fun x hx => by
      rcases List.mem_cons.1 hx with e | e
      · exact .inl e
      · exact .inr (by simpa using e)
    have k03 : Kp [] w (w2.alloc (.cells #[.int .i64 (id : Int), .slice a m c] 226)).drew := (k1.next k2).next k23
    have hz03 := k03.size
    have hz36 := k36.size
    obtain ⟨_, _, _, hk9⟩ := H3.out.restG k36 hS36
    have hm : m = ws.length := by
      obtain ⟨_, _, e, _⟩ := owns_forms HU.out
      cases e; rfl
    have hT6 : TextsIs W6 B (.slice a5 (n + 1) c5) (insAt s.G i (id, ws)) (insAt s.gs i (.slice a m c)) := by
      refine texts_ins H3.out.gath ?_ hk9 (k03.owns HU.out (by simp)) (fun x hx g hg e => hun g hg (H3.out.inW x hx g e))
      rw [HN.out]
      exact kX.owns ho5 (fun gg hgg hx => by
        simp at hx; subst hx
        exact owns_ne_type ho5 hX5 (by decide) hgg)
    have hO6 : ∀ g ∈ O, g ∈ grow O w W6 ++ (Value.slice a m c).ownBlock.toList := fun g hg => List.mem_append.2 (.inl (mem_grow.2 (.inl hg)))
    have hp6 : ((insAt s.G i (id, ws)).map Prod.fst).Perm (id :: s.G.map Prod.fst) := (insA_perm s.G i (id, ws)).map Prod.fst
    refine ⟨rfl, _, H3.out.turnG k36 hS36 hX6 hT6 ?_ HSRT.out ?_ ?_ hO6 ?_ ?_, rfl, ⟨rfl, rfl, rfl, rfl, rfl, rfl, rfl, rfl, rfl⟩, (k03.mono (by simp)).next (k36.mono fun x hx => by
      rcases hS36 x hx with rfl | e
      · exact H3.out.inX
      · exact H3.out.inG x e)⟩
    · intro t ht
      rcases mem_insA ht with rfl | ht
      · exact ⟨hid, hw.1, hw.2.1, hw.2.2⟩
      · exact H3.out.word t ht
    · rw [insA_len]
      have := abs_len s
      omega
    · refine ((hp6.append_right _).nodup_iff).2 ?_
      rw [List.cons_append, List.nodup_cons]
      refine ⟨?_, H3.out.nodup⟩
      rw [← abs_ids]; exact hno
    · intro g hg
      rcases hb5 with e | e
      · rw [e] at hg
        exact ⟨hO6 g (H3.out.inG g hg), H3.out.outG g hg⟩
      · have hgg : g = (w2.alloc (.cells #[.int .i64 (id : Int), .slice a m c] 226)).drew.heap.size := by
          rw [e] at hg; simpa using hg.symm
        have hlt := (hT6.row.lt g hg).2
        refine ⟨List.mem_append.2 (.inl (mem_grow.2 (.inr ⟨by omega, hlt⟩))), fun t ht => .inr ?_⟩
        have := H3.out.hiLe t ht
        omega
    · intro u hu g hg
      rcases mem_insA hu with rfl | hu
      · exact List.mem_append.2 (.inr (by simp [hg]))
      · exact hO6 g (H3.out.inW u hu g hg)
end Go.Proofs.YtpdoacfiiledcaaGreatDoor.Pak

set_option linter.unusedVariables false
set_option linter.unusedSimpArgs false
set_option maxRecDepth 8000
namespace Go.Proofs.YtpdoacfiiledcaaGreatDoor.Pak
open Go.RowKit Go.Proofs.YtpdoacfiiledcaaGreatDoor Go.Proofs.YtpdoacfiiledcaaGreatDoor.Spl SiftM

theorem idmY (id : Int) (h1 : (0 : Int) ≤ id) (h2 : id ≤ 99999) (w : World) : Calls Tryz.prog 139 #[.int .i64 id] w fun e w' => e = .returned (.bool true) ∧ w' = w := by
  go_enter Tryz.func139, Tryz.ntmps139
  go_wp2_with fail
  go_ret
  exact ⟨rfl, rfl⟩
theorem idmN (id : Int) (h : id < 0 ∨ 99999 < id) (w : World) : Calls Tryz.prog 139 #[.int .i64 id] w fun e w' => e = .returned (.bool false) ∧ w' = w := by
  by_cases h1 : (0 : Int) ≤ id
  · have h2 : ¬ id ≤ 99999 := by omega
    go_enter Tryz.func139, Tryz.ntmps139
    go_wp2_with fail
    go_ret
    exact ⟨rfl, rfl⟩
  · go_enter Tryz.func139, Tryz.ntmps139
    go_wp2_with fail
    go_ret
    exact ⟨rfl, rfl⟩
theorem hasP (X B id : Nat) (O : List Nat) (s : PSt) (w : World) (h : PIs w X B O s) (hid : id ≤ 99999) :
    Calls Tryz.prog 140 #[.pointer (some ⟨X, 0, none⟩), .int .i64 (id : Int)] w fun e w' => e = .returned (.bool (decide (id ∈ s.abs.ids))) ∧ Kp [] w w' := by
  obtain ⟨x0, x6, x7, x8, x9, x10, xf⟩ := px_cells h
  have := has_any X B id s.hb (homL s.Ps).length s.gv s.G s.gs (homF s.Ps) w x7 x9 h.gath h.sort (by have := h.all60; omega) h.hom (by omega)
  have e : (decide (id ∈ s.G.map Prod.fst) || (homF s.Ps id).isSome) = decide (id ∈ s.abs.ids) := by
    rw [homF_isSome, abs_ids, Bool.eq_iff_iff]
    simp only [Bool.or_eq_true, decide_eq_true_eq, List.mem_append]
  rw [e] at this
  exact this
theorem px_down {w : World} {X B : Nat} {O : List Nat} {s : PSt} (h : PIs w X B O s) : w.cell? ⟨X, 6, none⟩ = some (.bool false) := (px_cells h).2.1

set_option maxHeartbeats 4000000 in
/-- The program's Delete. -/
theorem del_any (X B : Nat) (O : List Nat) (s : PSt) (idI : Int) (w : World) (h : PIs w X B O s) :
    Calls Tryz.prog 64 #[.pointer (some ⟨X, 0, none⟩), .int .i64 idI] w fun e w' => e = .returned (.int .i64 (s.abs.delE idI)) ∧ ∃ s', PIs w' X B (grow O w w') s' ∧ s'.abs = s.abs.del idI ∧ Rest s s' ∧ Kp O w w' := by
  have x6 := px_down h
  have hself : ∀ (E : Int), s.abs.delE idI = E → E ≠ 0 → ∀ w', Kp [] w w' → (∃ s', PIs w' X B (grow O w w') s' ∧ s'.abs = s.abs.del idI ∧ Rest s s' ∧ Kp O w w') := by
    intro E hE hne w' k
    refine ⟨s, (h.kp k (by simp)).more (fun g hg => mem_grow.2 (.inl hg)), ?_, Rest.refl _, k.mono (by simp)⟩
    unfold DSt.del
    rw [if_neg (by rw [hE]; exact hne)]
  by_cases hr1 : idI < 0 ∨ 99999 < idI
  · have hE : s.abs.delE idI = 3 := by unfold DSt.delE; rw [if_pos hr1]
    have HS := hide (hself 3 hE (by decide) w (Kp.refl _ _))
    rw [hE]
    have hmay := idmN idI hr1 w
    clear h hself hE hr1
    go_enter Tryz.func64, Tryz.ntmps64
    go_wp2_with fail
    refine hmay.mono ?_
    rintro e w1 ⟨rfl, rfl⟩
    go_wp2_with fail
    go_ret
    exact ⟨rfl, HS.out⟩
  · obtain ⟨id, rfl⟩ : ∃ id : Nat, idI = (id : Int) := ⟨idI.toNat, by omega⟩
    have hid : id ≤ 99999 := by omega
    have hhas := hasP X B id O s w h hid
    have hmay := idmY (id : Int) (by omega) (by omega) w
    obtain ⟨hs, hhs⟩ : ∃ hs, decide (id ∈ s.abs.ids) = hs := ⟨_, rfl⟩
    rw [hhs] at hhas
    have hE : s.abs.delE id = if hs = false then 6 else 0 := by
      unfold DSt.delE
      rw [if_neg hr1, Int.toNat_natCast, ← hhs]
      simp
    have HH := hide h
    have HHAS := hide hhas
    have HSELF := hide hself
    have HM := hide hmay
    clear h hself hhas hhs hmay
    cases hs
    · have hE6 : s.abs.delE id = 6 := by rw [hE]; rfl
      have HE := hide hE6
      rw [hE6]
      clear hE hE6
      go_enter Tryz.func64, Tryz.ntmps64
      go_wp2_with fail
      refine HM.out.mono ?_
      rintro e w1 ⟨rfl, rfl⟩
      go_wp2_with fail
      refine HHAS.out.mono ?_
      rintro e w1 ⟨rfl, k1⟩
      go_wp2_with fail
      go_ret
      exact ⟨rfl, HSELF.out 6 HE.out (by decide) w1 k1⟩
    · have hE0 : s.abs.delE id = 0 := by rw [hE]; rfl
      have HE := hide hE0
      rw [hE0]
      clear hE hE0
      go_enter Tryz.func64, Tryz.ntmps64
      go_wp2_with fail
      refine HM.out.mono ?_
      rintro e w1 ⟨rfl, rfl⟩
      go_wp2_with fail
      refine HHAS.out.mono ?_
      rintro e w1 ⟨rfl, k1⟩
      have hi1 := HH.out.kp k1 (by simp)
      have hgone := drop_any X B id O s w1 hi1 hid
      clear hi1
      go_wp2_with fail
      refine hgone.mono ?_
      rintro e w2 ⟨rfl, s2, hi2, ha2, hre, k2⟩
      have HI2 := hide hi2
      have HA2 := hide ha2
      clear hi2 hgone ha2
      go_wp2_with fail
      go_ret
      refine ⟨rfl, s2, HI2.out.more ?_, ?_, hre, (k1.mono (by simp)).next k2⟩
      · intro g hg
        rcases mem_grow.1 hg with h1 | h1
        · exact mem_grow.2 (.inl h1)
        · exact mem_grow.2 (.inr ⟨Nat.le_trans k1.size h1.1, h1.2⟩)
      · rw [HA2.out]
        unfold DSt.del
        rw [if_pos HE.out, Int.toNat_natCast]
set_option maxHeartbeats 4000000 in
/-- The program's Flush. -/
theorem Flush_any (X B : Nat) (O : List Nat) (s : PSt) (w : World) (h : PIs w X B O s) (hTab : Tab64 w) (hB0 : 0 < B) (hnx : s.next < 1000000) :
    Calls Tryz.prog 37 #[.pointer (some ⟨X, 0, none⟩)] w fun e w' => e = .returned (.tuple #[.bool (!decide (s.abs.T = [])), .int .i64 0]) ∧ ∃ s', PIs w' X B (grow O w w') s' ∧ s'.abs = s.abs.flush ∧ Rest s s' ∧ Kp O w w' := by
  have x6 := px_down h
  have hf := flush_any X B O s w h hTab hB0 hnx
  clear h hTab
  go_enter Tryz.func37, Tryz.ntmps37
  go_wp2_with fail
  refine hf.mono ?_
  rintro e w1 ⟨rfl, hr⟩
  have HR := hide hr
  clear hf hr
  go_wp2_with fail
  go_ret2
  exact ⟨rfl, HR.out⟩
end Go.Proofs.YtpdoacfiiledcaaGreatDoor.Pak

