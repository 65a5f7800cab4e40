import Derived.Test.YtpdoacfiiledcaaGreatDoorV43
import Derived.Test.YtpdoacfiiledcaaGreatDoorV36
import Derived.Test.YtpdoacfiiledcaaGreatDoorV22
set_option linter.unusedVariables false
set_option linter.unusedSimpArgs false
set_option maxRecDepth 100000
namespace Go.Proofs.YtpdoacfiiledcaaGreatDoor.Pak
open Go.RowKit Go.Proofs.YtpdoacfiiledcaaGreatDoor Go.Proofs.YtpdoacfiiledcaaGreatDoor.Spl SiftM

theorem prV_snoc (Q : List PrS) (q : PrS) : prV (Q ++ [q]) = prV Q ++ [.pointer (some ⟨q.p, 0, none⟩)] := by simp [prV]
/-- One pair more. -/
theorem SW.paired {w W' : World} {P B K : Nat} {c c' : Nat → Nat} {psv psv' sv : Value} {Q : List PrS} {F : List Own.E1} {q : PrS} (h : SW w P B K c psv sv Q F) (k : Kp (P :: psv.ownBlock.toList) w W') (hblk : W'.heap[P]? = some (.cells #[psv', .slice none 0 0, .slice none 0 0, .slice none 0 0, sv, .slice none 0 0] 64 (0, 0)))
    (hrow : W'.ownsRow B 100 1 psv' (Q.length + 1) (prV Q ++ [.pointer (some ⟨q.p, 0, none⟩)])) (hc : ∀ g, g < w.heap.size → c' g = c g) (hps : ∀ g, psv'.ownBlock = some g → psv.ownBlock = some g ∨ c' g = 0) (hq : PairIs W' B c' Q.length (K + 1) q) :
    SW W' P B (K + 1) c' psv' sv (Q ++ [q]) F := by
  have hz := k.size
  have hlow := h.low
  have hS : ∀ y ∈ P :: psv.ownBlock.toList, y = P ∨ psv.ownBlock = some y := fun y hy => by
    rcases List.mem_cons.1 hy with e | e
    · exact .inl e
    · exact .inr (by simpa using e)
  have hT : ∀ y ∈ P :: psv.ownBlock.toList, ∃ cs t fz, w.heap[y]? = some (.cells cs t fz) ∧ (t = 64 ∨ t = 100) := fun y hy => by
    rcases hS y hy with rfl | e
    · exact ⟨_, _, _, h.blk, .inl rfl⟩
    · obtain ⟨cs, fz, hh⟩ := owns_cells h.ps y e
      exact ⟨_, _, _, hh, .inr rfl⟩
  have hC : ∀ y ∈ P :: psv.ownBlock.toList, c y = 0 := fun y hy => by
    rcases hS y hy with rfl | e
    · exact h.cP
    · exact h.cps y e
  refine ⟨hblk, h.pos, Nat.le_trans h.low hz, by rw [List.length_append, prV_snoc]; exact hrow, fun i hi => ?_, k.owns h.segs fun g hg hx => ?_, fun i y hy => K4.far (h.kept i y hy) k fun z hz' => ?_, fun g hg => by rw [hc g (by omega)]; exact h.cB g hg, by rw [hc P (heap_lt h.blk)]; exact h.cP, fun g hg => ?_, fun g hg => by rw [hc g (h.segs.lt g hg).2]; exact h.csv g hg, fun y hy u hu g hg => ?_, by rw [List.length_append]; exact Nat.succ_le_succ h.nq, Nat.le_succ_of_le h.nf, h.tab.kp k fun hx => ?_⟩
  · rcases Nat.lt_or_ge i Q.length with h1 | h1
    · rw [List.getElem_append_left h1]
      have q := h.prs i h1
      refine ⟨k.heap q.blk fun hx => ?_, q.px.kp k fun y hy hx => ?_, q.ry.kp k fun y hy hx => ?_, q.same, q.room, Nat.le_succ_of_le q.next, fun g hg => ⟨by rw [hc g (q.cx g hg).2]; exact (q.cx g hg).1, Nat.lt_of_lt_of_le (q.cx g hg).2 hz⟩, fun g hg => ⟨by rw [hc g (q.cy g hg).2]; exact (q.cy g hg).1, Nat.lt_of_lt_of_le (q.cy g hg).2 hz⟩, by rw [hc _ (heap_lt q.blk)]; exact q.cp⟩
      · obtain ⟨cs, t, fz, h2, h3⟩ := hT _ hx
        rw [q.blk] at h2
        simp at h2
        rcases h3 with e | e <;> rw [e] at h2 <;> simp at h2
      · have h2 := hC y hy
        have h3 := (q.cx y hx).1
        omega
      · have h2 := hC y hy
        have h3 := (q.cy y hx).1
        omega
    · rw [List.length_append] at hi
      have : i = Q.length := by simp at hi; omega
      subst this
      rw [List.getElem_append_right h1]
      simpa using hq
  · have h2 := hC g hx
    have h3 := h.csv g hg
    omega
  · obtain ⟨cs, t, fz, h2, h3⟩ := hT z hz'
    exact ⟨cs, t, fz, h2, by rcases h3 with e | e <;> rw [e] <;> decide⟩
  · rcases hps g hg with h1 | h1
    · rw [hc g (h.ps.lt g h1).2]; exact h.cps g h1
    · exact h1
  · have := h.cls y hy u hu g hg
    exact ⟨by rw [hc g this.2]; exact this.1, by omega⟩
  · have h3 := h.tab 0 (by omega)
    rcases hS 0 hx with e | e
    · have h4 := h.blk
      rw [show P = 0 from e.symm] at h4
      simp [World.cell?, h4] at h3
      have hps := h.ps.2
      rcases hps with ⟨e5, _⟩ | ⟨g1, cap, cur, e5, _⟩ <;> rw [e5] at h3 <;> simp at h3
    · have := (h.ps.lt 0 e).1
      have := h.pos
      omega
theorem info100 : (Tryz.prog.info? 100).map (fun i => (i.zero, i.size, i.bytes)) = some (some (.pointer none), 1, 8) := by kernel_rfl
theorem sw_c0 {w : World} {P : Nat} {psv sv : Value} (h : w.heap[P]? = some (.cells #[psv, .slice none 0 0, .slice none 0 0, .slice none 0 0, sv, .slice none 0 0] 64 (0, 0))) : w.cell? ⟨P, 0, none⟩ = some psv ∧ w.frozen? ⟨P, 0, none⟩ = false := by
  simp [World.cell?, World.frozen?, h]
set_option maxHeartbeats 4000000 in
/-- The step that makes an index. -/
theorem free5 (P B K : Nat) (cc : Nat → Nat) (psv sv : Value) (Q : List PrS) (F : List Own.E1) (a b c d : Int) (s : ByteArray) (la : Option Addr) (ln lc : Nat) (na : Option Addr) (nn nc : Nat) (fa : Option Addr) (fn fc : Nat) (w : World) (h : SW w P B K cc psv sv Q F) (hK : K < 1000000) (PlB : B ≤ P) :
    Calls Tryz.prog 42 #[.pointer (some ⟨P, 0, none⟩), opA 5 a b c d s (.slice la ln lc) (.slice na nn nc) (.slice fa fn fc)] w fun e w' => e = .returned (.bool true) ∧ (∃ c' psv' Q', SW w' P B (K + 1) c' psv' sv Q' F ∧ (cfgOk a b = true → Q' ≠ [])) ∧ Below B w w' := by
  obtain ⟨i0, hi0, hz0, hz1, hz2⟩ := info_parts info100
  obtain ⟨W, hW⟩ : ∃ W, w.alloc (.cells (opC 5 a b c d s (.slice la ln lc) (.slice na nn nc) (.slice fa fn fc)) 69) = W := ⟨_, rfl⟩
  have kW : Kp [] w W := by rw [← hW]; exact (Kp.refl _ _).alloc _
  have bW : W.heap[w.heap.size]? = some (.cells (opC 5 a b c d s (.slice la ln lc) (.slice na nn nc) (.slice fa fn fc)) 69 (0, 0)) := by rw [← hW]; exact heap_alloc_new _ _
  obtain ⟨o0, o1, o2, o5⟩ := op_cells bW
  obtain ⟨W2, hW2⟩ : ∃ W2, W.alloc (.cells #[.int .i64 a, .int .i64 b] 74) = W2 := ⟨_, rfl⟩
  have kW2 : Kp [] W W2 := by rw [← hW2]; exact (Kp.refl _ _).alloc _
  have bW2 : W2.heap[W.heap.size]? = some (.cells #[.int .i64 a, .int .i64 b] 74 (0, 0)) := by rw [← hW2]; exact heap_alloc_new _ _
  obtain ⟨u0, u1⟩ := two_cells bW2
  have hnew := new_any a b W2
  have HH := hide h
  have HB2 := hide bW2
  have HK2 := hide (kW.next kW2)
  have hzw := (kW.next kW2).size
  have hPlt := heap_lt h.blk
  clear h bW bW2 kW kW2
  unfold opA
  go_enter Tryz.func42, Tryz.ntmps42
  unfold opC at hW
  go_wp2_with fail
  refine hnew.mono ?_
  rintro e w3 ⟨k3, hcase⟩
  obtain ⟨v0, v1⟩ := two_cells (k3.heap HB2.out (by simp))
  have hrn := rnew_any a b w3
  rcases hcase with ⟨hc0, rfl⟩ | ⟨hc1, X, hb, fv, rfl, hX, hp⟩
  · clear hnew o0 o1 o2 o5 u0 u1
    go_wp2_with fail
    refine hrn.mono ?_
    rintro e w4 ⟨k4, ⟨_, rfl⟩ | ⟨hc1, _⟩⟩
    · go_wp2_with fail
      go_ret
      have k := (HK2.out.next k3).next k4
      refine ⟨rfl, ⟨_, _, _, (HH.out.kp0 k).up, fun e => by rw [hc0] at e; simp at e⟩, k.below HH.out.low (by simp)⟩
    · rw [hc0] at hc1; simp at hc1
  · have HP := hide hp
    clear hnew o0 o1 o2 o5 u0 u1 hp
    go_wp2_with fail
    refine hrn.mono ?_
    rintro e w4 ⟨k4, ⟨hc0, _⟩ | ⟨_, Y, rfl, hY, hr⟩⟩
    · rw [hc1] at hc0; simp at hc0
    · obtain ⟨ag, cap, es, _⟩ := owns_forms HH.out.ps
      obtain ⟨nQ, hnQ⟩ : ∃ nQ, Q.length = nQ := ⟨_, rfl⟩
      rw [hnQ] at es
      have k04 : Kp [] w w4 := (HK2.out.next k3).next k4
      have hb4 := k04.heap HH.out.blk (by simp)
      obtain ⟨d0, g0⟩ := sw_c0 hb4
      rw [es] at d0 hb4
      have hrow4 := k04.owns HH.out.ps (by simp)
      rw [hnQ, es] at hrow4
      have HR4 := hide hrow4
      have HB4 := hide hb4
      have HES := hide es
      have HNQ := hide hnQ
      have HRR := hide hr
      have hz4 := k04.size
      have hlw : B ≤ w4.heap.size := Nat.le_trans HH.out.low hz4
      have hnq : nQ ≤ K + 1 := by rw [← hnQ]; exact HH.out.nq
      have hPl4 : P < w4.heap.size := by omega
      have hne : (Value.slice ag nQ cap).ownBlock ≠ some P := owns_ne_type hrow4 hb4 (by decide)
      have d0' : ∀ o, (w4.alloc o).cell? ⟨P, 0, none⟩ = some (.slice ag nQ cap) := fun o => by rw [World.cell?_alloc_past _ _ _ hPl4]; exact d0
      have hXX : Hid (∀ u : World, Kp (Value.slice ag nQ cap).ownBlock.toList w4 u → u.heap[P]? = some (.cells #[.slice ag nQ cap, .slice none 0 0, .slice none 0 0, .slice none 0 0, sv, .slice none 0 0] 64 (0, 0)) ∧ u.cell? ⟨P, 0, none⟩ = some (.slice ag nQ cap) ∧ u.frozen? ⟨P, 0, none⟩ = false) := by
        intro u ku
        have hu := ku.heap HB4.out (fun hx => hne (by simpa using hx))
        exact ⟨hu, (sw_c0 hu).1, (sw_c0 hu).2⟩
      clear hrow4 hb4 es hnQ hr hrn v0 v1
      go_wp2_with (first
        | (at_builtin; refine wpList_append_own_at _ rfl _ _ 55 rfl B 100 i0 (.pointer none) 1 8 Tryz.underlying55 hi0 hz0 hz1 hz2 rfl (by decide) _ _ _ rfl ((HR4.out.alloc _).alloc _) ⟨w4.heap.size + 1, 0, none⟩ 1 1 [.pointer (some ⟨w4.heap.size, 0, none⟩)] rfl rfl (World.news_of_block (cs := #[.pointer (some ⟨w4.heap.size, 0, none⟩)]) (t := 100) (fr := (0, 0)) (heap_two w4 _ _)) ?g2 ?g3 ?g4 ?g5 ?_)
        | fail)
      case g2 => first | exact ⟨rfl, trivial⟩ | simp [Value.oneCell']
      case g3 => unfold maxLen; omega
      case g4 => omega
      case g5 => first | omega | (simp; omega)
      intro v5 w5 ho5 hgrow _ hat
      obtain ⟨a5, c5, rfl, _⟩ := owns_forms ho5
      have k5 : Kp (Value.slice ag nQ cap).ownBlock.toList w4 w5 := (((Kp.refl _ _).alloc _).alloc _).grown hgrow (fun j hj => .inl (by simp [hj]))
      obtain ⟨z1, z2, z3⟩ := hXX.out w5 k5
      have hb5 : w5.heap[w4.heap.size]? = some (.cells #[.pointer (some ⟨X, 0, none⟩), .pointer (some ⟨Y, 0, none⟩)] 105 (0, 0)) := by
        have e1 : ((w4.alloc (.cells #[.pointer (some ⟨X, 0, none⟩), .pointer (some ⟨Y, 0, none⟩)] 105)).alloc (.cells #[.pointer (some ⟨w4.heap.size, 0, none⟩)] 100)).heap[w4.heap.size]? = some (.cells #[.pointer (some ⟨X, 0, none⟩), .pointer (some ⟨Y, 0, none⟩)] 105 (0, 0)) := (Below.heap_alloc _ _ _ (by simp)).trans (heap_alloc_new w4 _)
        rw [hgrow.block w4.heap.size (by simp; omega) (fun e => by have := (HR4.out.lt _ e.symm).2; omega)]
        exact e1
      have HO5 := hide ho5
      have HB5 := hide hb5
      have HAT := hide hat
      clear ho5 hgrow hat hb5
      go_wp2_with fail
      go_ret
      obtain ⟨W6, hW6⟩ : ∃ W6, w5.setCell ⟨P, 0, none⟩ (.slice a5 (nQ + 1) c5) = W6 := ⟨_, rfl⟩
      rw [hW6]
      have k6 : Kp [P] w5 W6 := by rw [← hW6]; exact kp_set w5 P 0 _
      have hb6 : W6.heap[P]? = some (.cells #[.slice a5 (nQ + 1) c5, .slice none 0 0, .slice none 0 0, .slice none 0 0, sv, .slice none 0 0] 64 (0, 0)) := by
        rw [← hW6, heap_setCell_same w5 P 0 _ 64 _ z1]; rfl
      have k46 : Kp (P :: (Value.slice ag nQ cap).ownBlock.toList) w4 W6 := (k5.mono (fun x hx => List.mem_cons_of_mem _ hx)).next (k6.mono (by simp))
      have kall : Kp (P :: psv.ownBlock.toList) w W6 := by rw [HES.out]; exact (k04.mono (by simp)).next k46
      have hSlt : ∀ x ∈ P :: (Value.slice ag nQ cap).ownBlock.toList, x < w.heap.size := fun x hx => by
        rcases List.mem_cons.1 hx with rfl | hx
        · exact hPlt
        · have hpsw := HH.out.ps
          rw [HES.out] at hpsw
          exact (hpsw.lt x (by simpa using hx)).2
      have hz3 := k3.size
      have hz4' := k4.size
      have hz46 := k46.size
      have hlow := HH.out.low
      have hcf : 1 ≤ a ∧ 2 ≤ b := by unfold cfgOk at hc1; simp at hc1; omega
      obtain ⟨c', hc'⟩ : ∃ c' : Nat → Nat, c' = recol (recol (recol (recol cc w.heap.size 0) W2.heap.size (2 * nQ + 2)) w3.heap.size (2 * nQ + 3)) w4.heap.size 0 := ⟨_, rfl⟩
      have hold : ∀ g, g < w.heap.size → c' g = cc g := fun g hg => by rw [hc', recol_old (by omega), recol_old (by omega), recol_old (by omega), recol_old hg]
      have hnew0 : ∀ g, w4.heap.size ≤ g → c' g = 0 := fun g hg => by rw [hc', recol_new hg]
      have hp4 := HP.out.kp k4 (by simp)
      have hq : PairIs W6 B c' Q.length (K + 1) ⟨w4.heap.size, X, Y, grow [] W2 w3, grow [] w3 w4, newP a.toNat b.toNat hb fv, newS a.toNat b.toNat⟩ := by
        refine ⟨k6.heap HB5.out (by simp; omega), (hp4.kp k46 fun x hx hy => ?_).lower (by omega), ?_, ?_, ?_, ?_, fun g hg => ?_, fun g hg => ?_, hnew0 _ (Nat.le_refl _)⟩
        · have h1 := hSlt x hx
          rcases mem_grow.1 hy with h2 | h2
          · simp at h2
          · omega
        · have hr6 := HRR.out.kp k46 fun x hx hy => by
            have h1 := hSlt x hx
            rcases mem_grow.1 hy with h2 | h2
            · simp at h2
            · omega
          exact new_is hr6.blk (by omega) hr6.inX
        · show (newP a.toNat b.toNat hb fv).abs = (newS a.toNat b.toNat).abs.srt
          rw [newP_abs, newS_abs, srt_new]
        · show (newS a.toNat b.toNat).abs.T.length < (newS a.toNat b.toNat).abs.buf
          rw [newS_abs]
          show 0 < a.toNat
          omega
        · show (newS a.toNat b.toNat).abs.next ≤ K + 1
          rw [newS_abs]
          exact Nat.zero_le _
        · rcases mem_grow.1 hg with h2 | h2
          · simp at h2
          · exact ⟨by rw [HNQ.out, hc', recol_old (by omega), recol_old h2.2, recol_new h2.1], by omega⟩
        · rcases mem_grow.1 hg with h2 | h2
          · simp at h2
          · exact ⟨by rw [HNQ.out, hc', recol_old h2.2, recol_new h2.1], by omega⟩
      have hfin := HH.out.paired kall hb6 (by
        rw [HNQ.out]
        exact k6.owns HO5.out fun gg hgg hx => by
          simp at hx; subst hx
          exact owns_ne_type HO5.out z1 (by decide) hgg) hold (fun gg hgg => by
        rw [HES.out]
        rcases HAT.out with h9 | h9
        · exact .inl (by rw [← h9]; exact hgg)
        · rw [h9] at hgg
          have : w4.heap.size ≤ gg := by simp at hgg; omega
          exact .inr (hnew0 gg this)) hq
      refine ⟨rfl, ⟨_, _, _, hfin, fun _ => by simp⟩, ?_⟩
      refine (k04.below hlow (by simp)).trans (k46.below (by omega) fun x hx => ?_)
      rcases List.mem_cons.1 hx with rfl | hx
      · exact PlB
      · exact (HR4.out.lt x (by simpa using hx)).1
end Go.Proofs.YtpdoacfiiledcaaGreatDoor.Pak

set_option linter.unusedVariables false
set_option linter.unusedSimpArgs false
set_option maxRecDepth 8000
namespace Go.Proofs.YtpdoacfiiledcaaGreatDoor.Pak
open Go.RowKit Go.Proofs.YtpdoacfiiledcaaGreatDoor Go.Proofs.YtpdoacfiiledcaaGreatDoor.Spl SiftM

/-- What is told of a segment. -/
def dgA (t : DSg) : List Value := [.int .i64 (t.num : Int), .int .i64 (t.T.length : Int), .int .i64 (deadN t.fl : Int), .int .i64 ((termsOf t.T).length : Int), .int .i64 ((St.refSets (termsOf t.T)).length : Int), .int .i64 ((fileT t.T).length : Int)]
def dgV (L : List DSg) : List Value := L.flatMap dgA
theorem sg_dg (L : List RSg) : sgV L = dgV (L.map RSg.abs) := by
  unfold sgV dgV
  rw [List.flatMap_map]
  rfl
theorem dgV_take (L : List DSg) (i : Nat) (h : i < L.length) : dgV (L.take (i + 1)) = dgV (L.take i) ++ dgA L[i] := by
  unfold dgV
  rw [List.take_succ_eq_append_getElem h, List.flatMap_append]
  simp
theorem pop_more : ∀ (f n x : Nat), x < 2 ^ n → n ≤ f → Lib.popAux f x = Lib.popAux n x
  | 0, n, x, _, hn => by
    have : n = 0 := by omega
    subst this; rfl
  | f + 1, 0, x, hx, _ => by
    have : x = 0 := by omega
    subst this
    have e : ∀ f, Lib.popAux f 0 = 0 := by
      intro f
      induction f with
      | zero => rfl
      | succ f ih => simp [Lib.popAux, ih]
    exact e (f + 1)
  | f + 1, n + 1, x, hx, hn => by
    have := pop_more f n (x / 2) (by rw [Nat.pow_succ] at hx; omega) (by omega)
    simp only [Lib.popAux, this]
theorem pop_flags : ∀ (n x : Nat), Lib.popAux n x = deadN ((List.range n).map fun d => x.testBit d)
  | 0, x => rfl
  | n + 1, x => by
    have ih := pop_flags n (x / 2)
    rw [List.range_succ_eq_map, List.map_cons, List.map_map]
    have e : ((List.range n).map ((fun d => x.testBit d) ∘ Nat.succ)) = (List.range n).map fun d => (x / 2).testBit d := by
      apply List.map_congr_left
      intro d _
      simp only [Function.comp, Nat.succ_eq_add_one, Nat.testBit_succ]
    rw [e]
    simp only [Lib.popAux, ih]
    have e2 : ∀ (b : Bool) (l : List Bool), deadN (b :: l) = b.toNat + deadN l := by
      intro b l
      cases b <;> simp [deadN]; omega
    rw [e2, Nat.testBit_zero]
    congr 1
    rcases Nat.mod_two_eq_zero_or_one x with h | h <;> simp [h]
theorem ones_flags {w : World} {t : PPt} (h : PartIs w t) : Lib.onesCount t.dead = deadN t.flags := by
  unfold Lib.onesCount PPt.flags
  rw [pop_more 64 t.T.length t.dead h.dlo (by have := h.fine.len; omega), pop_flags]

theorem more_le {α : Type} [DecidableEq α] (l : List α) (e : α) : (St.more l e).length ≤ l.length + 1 := by
  unfold St.more
  split <;> simp
theorem mores_le {α : Type} [DecidableEq α] (es l : List α) : (St.mores l es).length ≤ l.length + es.length := by
  induction es generalizing l with
  | nil => exact Nat.le_refl _
  | cons e es ih =>
    have h1 := ih (St.more l e)
    have h2 := more_le l e
    unfold St.mores at h1 ⊢
    simp only [List.foldl_cons, List.length_cons]
    omega
theorem flat_le {α β : Type} (f : α → List β) (k : Nat) : ∀ (l : List α), (∀ x ∈ l, (f x).length ≤ k) → (l.flatMap f).length ≤ k * l.length
  | [], _ => by simp
  | x :: r, h => by
    have h1 := flat_le f k r fun y hy => h y (by simp [hy])
    have h2 := h x (by simp)
    rw [List.flatMap_cons, List.length_append, List.length_cons, Nat.mul_succ]
    omega
theorem sets_le {T : List Tx} (h : Fine T) : (St.refSets (termsOf T)).length ≤ 1000000000 := by
  have h1 := allW_le T (fun t ht => h.few t ht)
  have h2 := h.len
  obtain ⟨F, hF⟩ : ∃ F : St.Bt → List St.Bt, F = fun t => (List.range (t.length + 1)).map fun n => St.endings (termsOf T) (t.take n) := ⟨_, rfl⟩
  have h4 : (St.refSets (termsOf T)).length ≤ 0 + ((termsOf T).flatMap F).length := by rw [hF]; exact mores_le _ _
  have h3 := flat_le F 9 (termsOf T) (fun t ht => by have := fine_word T h t ht; rw [hF]; simp; omega)
  omega

set_option maxHeartbeats 8000000 in
/-- The program's Segments. -/
theorem segments_any (X B n : Nat) (O : List Nat) (s : PSt) (w : World) (h : PIs w X B O s) (hn : s.Ps.length = n) (hb : n ≤ 1000000) :
    Calls Tryz.prog 95 #[.pointer (some ⟨X, 0, none⟩)] w fun e w' => ∃ a c, e = .returned (.tuple #[.slice a n c, .int .i64 0]) ∧ w'.ownsRow w.heap.size 295 6 (.slice a n c) n (dgV s.abs.L) ∧ Kp [] w w' := by
  obtain ⟨i0, hi0, hz0, hz1, hz2⟩ := info_parts info277
  obtain ⟨x0, x6, x7, x8, x9, x10, xf⟩ := px_cells h
  obtain ⟨ag, cp, ep, hag⟩ := owns_forms h.parts
  have hL : s.abs.L.length = n := by rw [← hn]; simp [PSt.abs]
  rw [hn] at ep hag
  rw [ep] at x8
  have hrow := h.parts
  rw [ep, hn] at hrow
  have HW := hide hrow
  have HE := hide h.each
  have HN := hide hn
  have HL := hide hL
  clear h hrow hn hL x0 x7 x9 x10 xf ep
  go_enter Tryz.func95, Tryz.ntmps95
  go_wp2_with fail
  go_loopw [4, 16] (fun ov iv wr => ∃ (i : Nat) (a : Option Addr) (c : Nat), i ≤ n ∧ iv = .int .i64 (i : Int) ∧ ov = .slice a i c ∧ wr.ownsRow w.heap.size 295 6 (.slice a i c) i (dgV (s.abs.L.take i)) ∧ Kp [] w wr) (fun _ iv _ => n - (intOf iv).toNat)
  case atStart => exact ⟨0, none, 0, by omega, rfl, rfl, World.ownsRow_nil _ _ _ _, Kp.refl _ _⟩
  case round =>
    obtain ⟨i, a, c, hi, rfl, rfl, ho, hkp⟩ := hrel
    by_cases hlt : i < n
    · obtain ⟨g, rfl⟩ := hag (by omega)
      have hiL : i < s.Ps.length := by rw [HN.out]; exact hlt
      have hpc := ptV_cell (hkp.owns HW.out (by simp)) i hiL
      have hpt := (HE.out _ (List.getElem_mem hiL)).kp0 hkp
      have hta := dgV_take s.abs.L i (by rw [HL.out]; exact hlt)
      have hel : s.abs.L[i]'(by rw [HL.out]; exact hlt) = (s.Ps[i]).abs := by simp [PSt.abs]
      rw [hel] at hta
      obtain ⟨t, ht⟩ : ∃ t, s.Ps[i] = t := ⟨_, rfl⟩
      rw [ht] at hpc hpt hta
      obtain ⟨p0, p1⟩ := part_two hpt
      have hns : (St.refSets (termsOf t.T)).length ≤ 1000000000 := sets_le hpt.fine
      have hpd := hpt.kp0 (w' := wr.drew) ⟨rfl, rfl, rfl, Nat.le_refl _, fun _ _ _ => rfl⟩
      have hab := about_any t.q t.num t.T.length (termsOf t.T).length (St.refSets (termsOf t.T)).length ((bodyT t.T).length + 4) t.dead wr.drew hpd.seg.segC hpd.dlt hns
      rw [ones_flags hpt, ← show (fileT t.T).length = (bodyT t.T).length + 4 by unfold fileT; rw [List.length_append, sumB_len]] at hab
      have j1 : (0 : Int) ≤ (i : Int) := by omega
      have j2 : (i : Int) < (n : Int) := by omega
      have HO := hide ho
      have HT := hide hta
      obtain ⟨A, hA⟩ : ∃ A, dgA t.abs = A := ⟨_, rfl⟩
      have p0d : wr.drew.cell? ⟨t.p, 0, none⟩ = some (.pointer (some ⟨t.q, 0, none⟩)) := p0
      have p1d : wr.drew.cell? ⟨t.p, 1, none⟩ = some (.int .u64 (t.dead : Int)) := p1
      have kd : Kp [] w wr.drew := hkp.next ⟨rfl, rfl, rfl, Nat.le_refl _, fun _ _ _ => rfl⟩
      have krd : Kp [] wr wr.drew := ⟨rfl, rfl, rfl, Nat.le_refl _, fun _ _ _ => rfl⟩
      clear ho hpt hpd hta hel ht
      go_wp2_with fail
      go_region_law (first
        | (refine step_append_lies _ (by rfl) _ _ _ (by rfl) w.heap.size 295 i0 _ 6 48 Tryz.underlying115 hi0 hz0 hz1 hz2 rfl (by omega) (.slice a i c) i (dgV (s.abs.L.take i)) (by rfl) (HO1.out.alloc _) ⟨w1.heap.size, 0, none⟩ 1 1 [.int .i64 (t.num : Int), .int .i64 (t.T.length : Int), .int .i64 (deadN t.flags : Int), .int .i64 ((termsOf t.T).length : Int), .int .i64 ((St.refSets (termsOf t.T)).length : Int), .int .i64 ((fileT t.T).length : Int)] (by rfl) (by rfl) (World.news_of_block (cs := #[.int .i64 (t.num : Int), .int .i64 (t.T.length : Int), .int .i64 (deadN t.flags : Int), .int .i64 ((termsOf t.T).length : Int), .int .i64 ((St.refSets (termsOf t.T)).length : Int), .int .i64 ((fileT t.T).length : Int)]) (t := 295) (fr := (0, 0)) (heap_alloc_new w1 _)) (by simp [Value.oneCell']) (by omega) (by unfold maxLen; omega) (by omega) (by simp; omega) (w1.heap.size + 1) (by simp) ?_; intro g3 cap w3 hown3 hgrow hat hlt3)
        | (go_simp; refine hab.mono ?_; rintro e w1 ⟨rfl, k1⟩; have HO1 := hide ((krd.next k1).owns HO.out (by simp)); have hz1' := (kd.next k1).size; try go_simp))
      all_goals
        go_wp2_with fail
        have k3 : Kp (Value.slice a i c).ownBlock.toList w1 w3 := ((Kp.refl _ _).alloc _).grown hgrow (fun j hj => .inl (by simp [hj]))
        have kf : Kp [] w w3 := (kd.next k1).trans k3 (fun y hy => .inr (HO1.out.lt y (by simpa using hy)).1)
        refine ⟨⟨i + 1, some ⟨g3, 0, none⟩, cap, by omega, by go_num, rfl, ?_, kf⟩, ?_⟩
        · rw [HT.out]
          exact hown3
        · simp [intOf]; omega
    · have hin : i = n := by omega
      subst hin
      go_wp2_with fail
      go_ret2
      exact ⟨a, c, rfl, by rw [List.take_of_length_le (by rw [HL.out]; exact Nat.le_refl _)] at ho; exact ho, hkp⟩
end Go.Proofs.YtpdoacfiiledcaaGreatDoor.Pak

set_option linter.unusedVariables false
set_option linter.unusedSimpArgs false
set_option maxRecDepth 8000
namespace Go.Proofs.YtpdoacfiiledcaaGreatDoor.Pak
open Go.RowKit Go.Proofs.YtpdoacfiiledcaaGreatDoor Go.Proofs.YtpdoacfiiledcaaGreatDoor.Spl SiftM

theorem dgV_get : ∀ (L : List DSg) (i k : Nat) (h : i < L.length), k < 6 → (dgV L)[i * 6 + k]? = (dgA L[i])[k]?
  | x :: r, 0, k, h, hk => by
    have e : dgV (x :: r) = dgA x ++ dgV r := by simp [dgV]
    rw [e, Nat.zero_mul, Nat.zero_add, List.getElem?_append_left (by simp [dgA]; omega)]
    rfl
  | x :: r, i + 1, k, h, hk => by
    have ih := dgV_get r i k (by simpa using h) hk
    have e : dgV (x :: r) = dgA x ++ dgV r := by simp [dgV]
    have hl : (dgA x).length = 6 := rfl
    rw [e, List.getElem?_append_right (by rw [hl]; omega), hl, show (i + 1) * 6 + k - 6 = i * 6 + k by omega, ih]
    rfl
theorem dg_cells {w : World} {B g n cap : Nat} {L : List DSg} (h : w.ownsRow B 295 6 (.slice (some ⟨g, 0, none⟩) n cap) n (dgV L)) (i : Nat) (hi : i < L.length) (k : Nat) (hk : k < 6) : w.cell? ⟨g, i * 6 + k, none⟩ = (dgA L[i])[k]? := by
  have hg := dgV_get L i k hi hk
  obtain ⟨v, hv⟩ : ∃ v, (dgA L[i])[k]? = some v := ⟨_, List.getElem?_eq_getElem (show k < (dgA L[i]).length from hk)⟩
  rw [hv] at hg ⊢
  have c0 := h.cells (g := g) rfl _ _ hg
  have ea : ∀ j, (⟨g, 0, none⟩ : Addr).add j = ⟨g, j, none⟩ := by intro j; unfold Addr.add; split <;> simp_all
  rw [ea] at c0
  exact c0

set_option maxHeartbeats 8000000 in
theorem sameG_any (B1 B2 n c1 c2 : Nat) (a1 a2 : Option Addr) (L : List DSg) (w : World) (h1 : w.ownsRow B1 295 6 (.slice a1 n c1) n (dgV L)) (h2 : w.ownsRow B2 295 6 (.slice a2 n c2) n (dgV L)) (hn : L.length = n) (hb : n ≤ 1000000) :
    Calls Tryz.prog 97 #[.slice a1 n c1, .slice a2 n c2] w fun e w' => e = .returned (.bool true) ∧ Kp [] w w' := by
  have hs1 : 0 < n → ∃ g, a1 = some ⟨g, 0, none⟩ := by
    obtain ⟨a, c, e, hs⟩ := owns_forms h1
    simp at e
    intro h; obtain ⟨g, hg⟩ := hs h; exact ⟨g, by rw [e.1]; exact hg⟩
  have hs2 : 0 < n → ∃ g, a2 = some ⟨g, 0, none⟩ := by
    obtain ⟨a, c, e, hs⟩ := owns_forms h2
    simp at e
    intro h; obtain ⟨g, hg⟩ := hs h; exact ⟨g, by rw [e.1]; exact hg⟩
  have H1 := hide h1
  have H2 := hide h2
  have HN := hide hn
  clear h1 h2 hn
  go_enter Tryz.func97, Tryz.ntmps97
  go_wp2_with fail
  go_loopw [5] (fun iv wr => ∃ i : Nat, i ≤ n ∧ iv = .int .i64 (i : Int) ∧ Kp [] w wr) (fun iv _ => n - (intOf iv).toNat)
  case atStart => exact ⟨0, by omega, rfl, Kp.refl _ _⟩
  case round =>
    obtain ⟨i, hi, rfl, hkp⟩ := hrel
    by_cases hlt : i < n
    · obtain ⟨g1, rfl⟩ := hs1 (by omega)
      obtain ⟨g2, rfl⟩ := hs2 (by omega)
      have hiL : i < L.length := by rw [HN.out]; exact hlt
      have d1 := dg_cells (hkp.owns H1.out (by simp)) i hiL
      have d2 := dg_cells (hkp.owns H2.out (by simp)) i hiL
      obtain ⟨t, ht⟩ : ∃ t, L[i] = t := ⟨_, rfl⟩
      rw [ht] at d1 d2
      have u0 := d1 0 (by omega)
      have v0 := d2 0 (by omega)
      have u1 := d1 1 (by omega)
      have v1 := d2 1 (by omega)
      have u2 := d1 2 (by omega)
      have v2 := d2 2 (by omega)
      have u3 := d1 3 (by omega)
      have v3 := d2 3 (by omega)
      have u4 := d1 4 (by omega)
      have v4 := d2 4 (by omega)
      have u5 := d1 5 (by omega)
      have v5 := d2 5 (by omega)
      simp only [dgA, List.getElem?_cons_zero, List.getElem?_cons_succ, Nat.add_zero] at u0 u1 u2 u3 u4 u5 v0 v1 v2 v3 v4 v5
      generalize (t.num : Int) = n0 at u0 v0
      generalize (t.T.length : Int) = n1 at u1 v1
      generalize (deadN t.fl : Int) = n2 at u2 v2
      generalize ((termsOf t.T).length : Int) = n3 at u3 v3
      generalize ((St.refSets (termsOf t.T)).length : Int) = n4 at u4 v4
      generalize ((fileT t.T).length : Int) = n5 at u5 v5
      have j1 : (0 : Int) ≤ (i : Int) := by omega
      have j2 : (i : Int) < (n : Int) := by omega
      obtain ⟨W, hW⟩ : ∃ W, wr.alloc (.cells #[.int .i64 n0, .int .i64 n1, .int .i64 n2, .int .i64 n3, .int .i64 n4, .int .i64 n5] 295) = W := ⟨_, rfl⟩
      have kW : Kp [] wr W := by rw [← hW]; exact (Kp.refl _ _).alloc _
      have z0 := kW.cellv v0 (by simp)
      have z1 := kW.cellv v1 (by simp)
      have z2 := kW.cellv v2 (by simp)
      have z3 := kW.cellv v3 (by simp)
      have z4 := kW.cellv v4 (by simp)
      have z5 := kW.cellv v5 (by simp)
      obtain ⟨W2, hW2⟩ : ∃ W2, W.alloc (.cells #[.int .i64 n0, .int .i64 n1, .int .i64 n2, .int .i64 n3, .int .i64 n4, .int .i64 n5] 295) = W2 := ⟨_, rfl⟩
      have kW2 : Kp [] W W2 := by rw [← hW2]; exact (Kp.refl _ _).alloc _
      have bW : W.heap[wr.heap.size]? = some (.cells #[.int .i64 n0, .int .i64 n1, .int .i64 n2, .int .i64 n3, .int .i64 n4, .int .i64 n5] 295 (0, 0)) := by rw [← hW]; exact heap_alloc_new _ _
      have bW2 : W2.heap[W.heap.size]? = some (.cells #[.int .i64 n0, .int .i64 n1, .int .i64 n2, .int .i64 n3, .int .i64 n4, .int .i64 n5] 295 (0, 0)) := by rw [← hW2]; exact heap_alloc_new _ _
      obtain ⟨e0, e1, e2, e3, e4, e5, _⟩ := six_cells (kW2.heap bW (by simp))
      obtain ⟨f0, f1, f2, f3, f4, f5, _⟩ := six_cells bW2
      have HK := hide (hkp.next (kW.next kW2))
      clear d1 d2 ht v0 v1 v2 v3 v4 v5 bW bW2 kW kW2
      go_wp2_with fail
      exact ⟨⟨i + 1, by omega, by go_num, HK.out⟩, by simp [intOf]; omega⟩
    · have hin : i = n := by omega
      subst hin
      go_wp2_with fail
      go_ret
      exact ⟨rfl, hkp⟩
end Go.Proofs.YtpdoacfiiledcaaGreatDoor.Pak

