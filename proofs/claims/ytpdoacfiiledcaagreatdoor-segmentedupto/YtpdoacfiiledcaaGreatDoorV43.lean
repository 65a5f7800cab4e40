import Derived.Test.YtpdoacfiiledcaaGreatDoorV42
import Derived.Test.YtpdoacfiiledcaaGreatDoorV37
import Derived.Test.YtpdoacfiiledcaaGreatDoorV29
import Derived.Test.YtpdoacfiiledcaaGreatDoorV35
set_option linter.unusedVariables false
set_option linter.unusedSimpArgs false
set_option maxRecDepth 100000
namespace Go.Proofs.YtpdoacfiiledcaaGreatDoor.Pak
open Go.RowKit Go.Proofs.YtpdoacfiiledcaaGreatDoor Go.Proofs.YtpdoacfiiledcaaGreatDoor.Spl SiftM

theorem K4.far {S : List Nat} {w w' : World} {x : Own.E1} {i : Nat} (h : Own.K4 w x i) (k : Kp S w w') (hS : ∀ y ∈ S, ∃ cs t fz, w.heap[y]? = some (.cells cs t fz) ∧ t ≠ 295) : Own.K4 w' x i := by
  obtain ⟨⟨f1, f2, f3, f4⟩, hn⟩ := h
  have one : ∀ {u : Value} {n : Nat} {c : List Value}, Own.MkG 295 w u n c → Own.MkG 295 w' u n c :=
    fun hm => hm.blocks fun g cs fz hg hh => k.block g (heap_lt hh) fun hx => by
      obtain ⟨cs', t, fz', h1, h2⟩ := hS g hx
      rw [hh] at h1
      simp at h1
      exact h2 h1.2.1.symm
  exact ⟨⟨one f1, one f2, one f3, one f4⟩, hn⟩
theorem MkG.lt {e : TypeId} {w : World} {u : Value} {k : Nat} {c : List Value} (h : Own.MkG e w u k c) (hk : 0 < k) (g : Nat) (hg : u.ownBlock = some g) : g < w.heap.size := by
  obtain ⟨a, cap, rfl, hc⟩ := h
  obtain ⟨g', rfl, ⟨cs, fz, hh⟩, _⟩ := hc hk
  simp [Value.ownBlock] at hg
  subst hg
  exact heap_lt hh
theorem owns_cells {w : World} {B n size : Nat} {e : TypeId} {v : Value} {xs : List Value} (h : w.ownsRow B e size v n xs) (g : Nat) (hg : v.ownBlock = some g) : ∃ cs fz, w.heap[g]? = some (.cells cs e fz) := by
  rcases h.2 with ⟨rfl, _⟩ | ⟨g1, cap, cur, rfl, _, hb, _⟩
  · simp [Value.ownBlock] at hg
  · simp [Value.ownBlock] at hg
    subst hg
    exact ⟨_, _, hb⟩
/-- One more list of segments has come out. -/
theorem SW.listed {w W' : World} {P B K : Nat} {c : Nat → Nat} {psv sv sv' : Value} {Q : List PrS} {F : List Own.E1} {x : Own.E1} (h : SW w P B K c psv sv Q F) (k : Kp (P :: sv.ownBlock.toList) w W') (hblk : W'.heap[P]? = some (.cells #[psv, .slice none 0 0, .slice none 0 0, .slice none 0 0, sv', .slice none 0 0] 64 (0, 0)))
    (hrow : W'.ownsRow B 117 5 sv' (F.length + 1) (rowV F ++ oneV x F.length)) (hx : Own.K4 W' x F.length) (hsv : ∀ g, sv'.ownBlock = some g → sv.ownBlock = some g ∨ w.heap.size ≤ g) (hls : ∀ u ∈ [x.l, x.o, x.t, x.h], ∀ g, u.ownBlock = some g → w.heap.size ≤ g ∧ g < W'.heap.size) :
    SW W' P B (K + 1) (recol c w.heap.size 1) psv sv' Q (F ++ [x]) := by
  have hz := k.size
  have hlow := h.low
  have hS : ∀ y ∈ P :: sv.ownBlock.toList, y = P ∨ sv.ownBlock = some y := fun y hy => by
    rcases List.mem_cons.1 hy with e | e
    · exact .inl e
    · exact .inr (by simpa using e)
  have hT : ∀ y ∈ P :: sv.ownBlock.toList, ∃ cs t fz, w.heap[y]? = some (.cells cs t fz) ∧ (t = 64 ∨ t = 117) := fun y hy => by
    rcases hS y hy with rfl | e
    · exact ⟨_, _, _, h.blk, .inl rfl⟩
    · obtain ⟨cs, fz, hh⟩ := owns_cells h.segs y e
      exact ⟨_, _, _, hh, .inr rfl⟩
  have hC : ∀ y ∈ P :: sv.ownBlock.toList, c y < 2 := fun y hy => by
    rcases hS y hy with rfl | e
    · rw [h.cP]; omega
    · rw [h.csv y e]; omega
  refine ⟨hblk, h.pos, Nat.le_trans h.low hz, k.owns h.ps fun g hg hx => ?_, fun i hi => ?_, by rw [List.length_append, rowV_snoc]; exact hrow, fun i y hy => ?_, fun g hg => by rw [recol_old (by omega)]; exact h.cB g hg, by rw [recol_old (heap_lt h.blk)]; exact h.cP, fun g hg => by rw [recol_old (h.ps.lt g hg).2]; exact h.cps g hg, fun g hg => ?_, fun y hy u hu g hg => ?_, Nat.le_succ_of_le h.nq, by rw [List.length_append]; exact Nat.succ_le_succ h.nf, ?_⟩
  · obtain ⟨cs, t, fz, h1, h2⟩ := hT g hx
    obtain ⟨cs', fz', h3⟩ := owns_cells h.ps g hg
    rw [h3] at h1
    simp at h1
    rcases h2 with e | e <;> rw [e] at h1 <;> simp at h1
  · have q := h.prs i hi
    have cx : ∀ g ∈ Q[i].Ox, g ∉ P :: sv.ownBlock.toList := fun g hg hx => by
      have h1 := hC g hx
      have h2 := (q.cx g hg).1
      omega
    have cy : ∀ g ∈ Q[i].Oy, g ∉ P :: sv.ownBlock.toList := fun g hg hx => by
      have h1 := hC g hx
      have h2 := (q.cy g hg).1
      omega
    refine ⟨k.heap q.blk fun hx => ?_, q.px.kp k fun y hy hx => cx y hx hy, q.ry.kp k fun y hy hx => cy y hx hy, q.same, q.room, Nat.le_succ_of_le q.next, fun g hg => ⟨by rw [recol_old (q.cx g hg).2]; exact (q.cx g hg).1, Nat.lt_of_lt_of_le (q.cx g hg).2 hz⟩, fun g hg => ⟨by rw [recol_old (q.cy g hg).2]; exact (q.cy g hg).1, Nat.lt_of_lt_of_le (q.cy g hg).2 hz⟩, by rw [recol_old (heap_lt q.blk)]; exact q.cp⟩
    obtain ⟨cs, t, fz, h1, h2⟩ := hT _ hx
    rw [q.blk] at h1
    simp at h1
    rcases h2 with e | e <;> rw [e] at h1 <;> simp at h1
  · rcases Nat.lt_or_ge i F.length with h1 | h1
    · rw [List.getElem?_append_left h1] at hy
      refine K4.far (h.kept i y hy) k fun z hz' => ?_
      obtain ⟨cs, t, fz, h2, h3⟩ := hT z hz'
      exact ⟨cs, t, fz, h2, by rcases h3 with e | e <;> rw [e] <;> decide⟩
    · rw [List.getElem?_append_right h1] at hy
      have : i = F.length := by
        rcases Nat.lt_or_ge (i - F.length) 1 with h2 | h2
        · omega
        · rw [List.getElem?_eq_none (by simpa using h2)] at hy; simp at hy
      subst this
      simp at hy
      subst hy
      exact hx
  · rcases hsv g hg with h1 | h1
    · rw [recol_old (h.segs.lt g h1).2]; exact h.csv g h1
    · exact recol_new h1
  · rcases List.mem_append.1 hy with h1 | h1
    · have := h.cls y h1 u hu g hg
      exact ⟨by rw [recol_old this.2]; exact this.1, by omega⟩
    · simp at h1
      subst h1
      have := hls u hu g hg
      exact ⟨recol_new this.1, this.2⟩
  · refine h.tab.kp k fun hx => ?_
    obtain ⟨cs, t, fz, h1, h2⟩ := hT 0 hx
    have h3 := h.tab 0 (by omega)
    rcases hS 0 hx with e | e
    · have h4 := h.blk
      rw [show P = 0 from e.symm] at h4
      simp [World.cell?, h4] at h3
      have hps := h.ps.2
      rcases hps with ⟨e5, _⟩ | ⟨g1, cap, cur, e5, _⟩ <;> rw [e5] at h3 <;> simp at h3
    · have := (h.segs.lt 0 e).1
      have := h.pos
      omega
theorem Tryz.info117o : (Tryz.prog.info? 117).map (fun i => (i.zero, i.size, i.bytes)) = some (some (.agg #[.slice none 0 0, .slice none 0 0, .slice none 0 0, .slice none 0 0, .int .i64 0]), 5, 104) := by kernel_rfl
theorem sw_c4 {w : World} {P : Nat} {psv sv : Value} (h : w.heap[P]? = some (.cells #[psv, .slice none 0 0, .slice none 0 0, .slice none 0 0, sv, .slice none 0 0] 64 (0, 0))) : w.cell? ⟨P, 4, none⟩ = some sv ∧ w.frozen? ⟨P, 4, none⟩ = false := by
  simp [World.cell?, World.frozen?, h]
set_option maxHeartbeats 4000000 in
/-- A list of segments comes out. -/
theorem seg_any (P B K n : Nat) (c : Nat → Nat) (psv sv : Value) (Q : List PrS) (F : List Own.E1) (v : Value) (ws : List Value) (w w1 : World) (h : SW w P B K c psv sv Q F) (hK : K < 1000000) (kw : Kp [] w w1) (hv : w1.ownsRow w.heap.size 295 6 v n ws) (hn : n ≤ 1000000) (PlB : B ≤ P) :
    Calls Tryz.prog 98 #[.pointer (some ⟨P, 1, none⟩), v] w1 fun e w' => e = .returned (.tuple #[]) ∧ (∃ c' sv' F', SW w' P B (K + 1) c' psv sv' Q F') ∧ Below B w1 w' := by
  obtain ⟨i0, hi0, hz0, hz1, hz2⟩ := info_parts Tryz.info117o
  obtain ⟨a, cap, es, _⟩ := owns_forms h.segs
  have hF := h.nf
  have hPlt := heap_lt h.blk
  obtain ⟨nF, hnF⟩ : ∃ nF, F.length = nF := ⟨_, rfl⟩
  rw [hnF] at es hF
  obtain ⟨c4, f4⟩ := sw_c4 (kw.heap h.blk (by simp))
  rw [es] at c4
  have hown := Own.ownG_any w.heap.size n nF v ws w1 (by omega) kw.size (by omega) hv
  have HH := hide h
  have HES := hide es
  have HNF := hide hnF
  have HV := hide hv
  clear h es hnF hv
  go_enter Tryz.func98, Tryz.ntmps98
  go_wp2_with fail
  refine hown.mono ?_
  rintro e w2 ⟨o, t, hh, rfl, hk, k2, hblk⟩
  obtain ⟨al, cl, rfl, _⟩ := id hk.fa
  obtain ⟨ao, co, rfl, _⟩ := id hk.fb
  obtain ⟨at', ct, rfl, _⟩ := id hk.fc
  obtain ⟨ah, ch, rfl, _⟩ := id hk.fd
  have kw2 : Kp [] w w2 := kw.trans k2 fun y hy => .inr (HV.out.lt y (by simpa using hy)).1
  have hs2 := kw2.size
  have hP2 := kw2.heap HH.out.blk (by simp)
  obtain ⟨d4, g4⟩ := sw_c4 hP2
  rw [HES.out] at d4
  have hrow2 := kw2.owns HH.out.segs (by simp)
  rw [HNF.out, HES.out] at hrow2
  have HR2 := hide hrow2
  have HP2 := hide hP2
  have HK := hide hk
  have HBK := hide hblk
  have hne : some P ≠ (Value.slice a nF cap).ownBlock := fun e => owns_ne_type hrow2 hP2 (by decide) e.symm
  have hlw : B ≤ w2.heap.size := Nat.le_trans HH.out.low hs2
  have hPl2 : P < w2.heap.size := by omega
  have d4' : ∀ o, (w2.alloc o).cell? ⟨P, 4, none⟩ = some (.slice a nF cap) := fun o => by rw [World.cell?_alloc_past _ _ _ hPl2]; exact d4
  have hXX : Hid (∀ u : World, Kp (Value.slice a nF cap).ownBlock.toList w2 u → u.heap[P]? = some (.cells #[psv, .slice none 0 0, .slice none 0 0, .slice none 0 0, .slice a nF cap, .slice none 0 0] 64 (0, 0)) ∧ u.cell? ⟨P, 4, none⟩ = some (.slice a nF cap) ∧ u.frozen? ⟨P, 4, none⟩ = false) := by
    intro u ku
    have hu := ku.heap HP2.out (fun hx => hne (by simpa using hx : (Value.slice a nF cap).ownBlock = some P).symm)
    rw [HES.out] at hu
    exact ⟨hu, (sw_c4 hu).1, (sw_c4 hu).2⟩
  clear hown hk hblk hrow2 hP2 c4 f4
  go_wp2_with fail
  go_region_law ((refine step_append_lies _ (by rfl) _ _ _ (by rfl) B 117 i0 _ 5 104 Tryz.underlying59 hi0 hz0 hz1 hz2 rfl (by omega) (.slice a nF cap) nF (rowV F) (by rfl) (((HR2.out.alloc _).alloc _).drew) ⟨w2.heap.size + 1, 0, none⟩ 1 1 [.slice al n cl, .slice ao (n + 1) co, .slice at' (n + 2) ct, .slice ah (n + 3) ch, .int .i64 (nF : Int)] (by rfl) (by rfl) (World.news_of_block (cs := #[.slice al n cl, .slice ao (n + 1) co, .slice at' (n + 2) ct, .slice ah (n + 3) ch, .int .i64 (nF : Int)]) (t := 117) (fr := (0, 0)) (heap_two w2 _ _)) (by simp [Value.oneCell']) (by omega) (by unfold maxLen; omega) (by omega) (by simp; omega) (w2.heap.size + 2) (by simp) ?_; intro g cap2 w3 hown3 hgrow hat hlt; have k3 : Kp (Value.slice a nF cap).ownBlock.toList w2 w3 := (kp_drew (((Kp.refl _ _).alloc _).alloc _)).grown hgrow (fun j hj => .inl (by simp [hj])); obtain ⟨z1, z2, z3⟩ := hXX.out w3 k3))
  all_goals
    go_wp2_with fail
    go_end0
    obtain ⟨W4, hW4⟩ : ∃ W4, w3.setCell ⟨P, 4, none⟩ (.slice (some ⟨g, 0, none⟩) (nF + 1) cap2) = W4 := ⟨_, rfl⟩
    rw [hW4]
    have k4 : Kp [P] w3 W4 := by rw [← hW4]; exact kp_set w3 P 4 _
    have hb4 : W4.heap[P]? = some (.cells #[psv, .slice none 0 0, .slice none 0 0, .slice none 0 0, .slice (some ⟨g, 0, none⟩) (nF + 1) cap2, .slice none 0 0] 64 (0, 0)) := by
      rw [← hW4, heap_setCell_same w3 P 4 _ 64 _ z1]; rfl
    have k24 : Kp (P :: (Value.slice a nF cap).ownBlock.toList) w2 W4 := (k3.mono (fun x hx => List.mem_cons_of_mem _ hx)).next (k4.mono (by simp))
    have kall : Kp (P :: sv.ownBlock.toList) w W4 := by rw [HES.out]; exact (kw2.mono (by simp)).next k24
    have hz24 := k24.size
    have hKx : Own.K4 W4 ⟨.slice al n cl, .slice ao (n + 1) co, .slice at' (n + 2) ct, .slice ah (n + 3) ch, n⟩ F.length := by
      rw [HNF.out]
      refine K4.far (w := w2) ⟨HK.out, show n ≤ 1000000000 by omega⟩ k24 fun y hy => ?_
      rcases List.mem_cons.1 hy with rfl | hy
      · exact ⟨_, _, _, HP2.out, by decide⟩
      · obtain ⟨cs, fz, e9⟩ := owns_cells HR2.out y (by simpa using hy)
        exact ⟨_, _, _, e9, by decide⟩
    have hfin := HH.out.listed kall hb4 (x := ⟨.slice al n cl, .slice ao (n + 1) co, .slice at' (n + 2) ct, .slice ah (n + 3) ch, n⟩) (by
      rw [HNF.out]
      exact k4.owns hown3 fun gg hgg hx => by
        simp at hx; subst hx
        exact owns_ne_type hown3 z1 (by decide) hgg) hKx (fun gg hgg => by
      rw [HES.out]
      have hgg' : g = gg := by simpa [Value.ownBlock] using hgg
      subst hgg'
      rcases hat with h9 | h9
      · exact .inl h9
      · exact .inr (by omega)) (fun u hu gg hgg => by
      rcases List.mem_cons.1 hu with rfl | hu
      · have h9 := HV.out.lt gg hgg
        have h8 := k2.size
        exact ⟨h9.1, by omega⟩
      · refine ⟨HBK.out u hu gg hgg, ?_⟩
        rcases List.mem_cons.1 hu with rfl | hu
        · have := MkG.lt HK.out.fb (by omega) gg hgg; omega
        · rcases List.mem_cons.1 hu with rfl | hu
          · have := MkG.lt HK.out.fc (by omega) gg hgg; omega
          · simp at hu
            subst hu
            have := MkG.lt HK.out.fd (by omega) gg hgg; omega)
    refine ⟨rfl, ⟨_, _, _, hfin⟩, ?_⟩
    have hlow := HH.out.low
    have hz1' := kw.size
    have hz2' := k2.size
    refine (k2.below (B := B) (by omega) fun x hx => ?_).trans (k24.below (by omega) fun x hx => ?_)
    · have := (HV.out.lt x (by simpa using hx)).1; omega
    · rcases List.mem_cons.1 hx with rfl | hx
      · exact PlB
      · exact (HR2.out.lt x (by simpa using hx)).1
end Go.Proofs.YtpdoacfiiledcaaGreatDoor.Pak

set_option linter.unusedVariables false
set_option linter.unusedSimpArgs false
set_option maxRecDepth 8000
namespace Go.Proofs.YtpdoacfiiledcaaGreatDoor.Pak
open Go.RowKit Go.Proofs.YtpdoacfiiledcaaGreatDoor Go.Proofs.YtpdoacfiiledcaaGreatDoor.Spl SiftM

/-- A new index of the program's. -/
def newP (b f hb : Nat) (fv : Value) : PSt := ⟨b, f, fv, 0, false, 0, .slice none 0 0, [], [], .slice none 0 0, [], hb, 0, .pointer none, [.pointer none, .pointer none, .pointer none, .pointer none]⟩
theorem newP_abs (b f hb : Nat) (fv : Value) : (newP b f hb fv).abs = DSt.new b f := rfl
theorem newP_is {w : World} {X B b f hb : Nat} {fv : Value} {O : List Nat} (h : w.heap[X]? = some (.cells (pxC (newP b f hb fv)) 85 (0, 0))) (hB : B ≤ w.heap.size) (hX : X ∈ O) (hH : hb ∈ O) (hm : HomIs w hb 0 fun _ => none) : PIs w X B O (newP b f hb fv) := by
  have e : homF (newP b f hb fv).Ps = fun _ => none := by funext id; rfl
  refine ⟨h, ⟨rfl, by simp [newP, isPtr]⟩, hB, TextsIs.nil _ _, fun t ht => by simp [newP] at ht, List.Pairwise.nil, World.ownsRow_nil _ _ _ _, fun t ht => by simp [newP] at ht, by rw [e]; exact hm, by simp [newP], by simp [newP, homL], by simp [newP, homL], hX, fun g hg => by simp [newP, Value.ownBlock] at hg, fun u hu => by simp [newP] at hu, fun g hg => by simp [newP, Value.ownBlock] at hg, hH, fun t ht => by simp [newP] at ht, fun t ht => by simp [newP] at ht, fun t ht => by simp [newP] at ht, fun g hg => by simp [newP, Value.ownBlock] at hg, fun g hg => by simp [newP, Value.ownBlock] at hg, fun t ht => by simp [newP] at ht, fun t ht => by simp [newP] at ht, fun t ht => by simp [newP] at ht, List.Pairwise.nil⟩
theorem TextsIs.lower {w : World} {B B' : Nat} {v : Value} {T : List Tx} {vs : List Value} (h : TextsIs w B v T vs) (hB : B' ≤ B) : TextsIs w B' v T vs :=
  ⟨h.len, owns_low h.row hB, fun i h1 h2 => owns_low (h.each i h1 h2) hB, h.apart⟩
theorem PIs.lower {w : World} {X B B' : Nat} {O : List Nat} {s : PSt} (h : PIs w X B O s) (hB : B' ≤ B) : PIs w X B' O s :=
  ⟨h.blk, h.rd, Nat.le_trans hB h.low, h.gath.lower hB, h.word, h.sort, owns_low h.parts hB, h.each, h.hom, h.cnt, h.all60, h.nodup, h.inX, h.inG, h.inW, h.inP, h.inH, h.inT, h.inS, h.outX, h.outG, h.outP, h.outH, h.outT, h.hiLe, h.apart⟩
set_option maxHeartbeats 2000000 in
theorem may_any (bI fI : Int) (w : World) :
    Calls Tryz.prog 53 #[.agg #[.int .i64 bI, .int .i64 fI]] w fun e w' => e = .returned (.bool (cfgOk bI fI)) ∧ Kp [] w w' := by
  obtain ⟨W1, hW1⟩ : ∃ W1, w.alloc (.cells #[.int .i64 bI, .int .i64 fI] 74) = W1 := ⟨_, rfl⟩
  have hb : W1.heap[w.heap.size]? = some (.cells #[.int .i64 bI, .int .i64 fI] 74 (0, 0)) := by rw [← hW1]; exact heap_alloc_new w _
  obtain ⟨c0, c1, f0, f1⟩ := rd_cells hb
  have k1 : Kp [] w W1 := by rw [← hW1]; exact (Kp.refl _ _).alloc _
  clear hb
  by_cases h1 : (1 : Int) ≤ bI
  case neg =>
    have : cfgOk bI fI = false := by unfold cfgOk; simp; omega
    rw [this]
    go_enter Tryz.func53, Tryz.ntmps53
    go_wp2_with fail
    go_ret
    exact ⟨rfl, k1⟩
  by_cases h2 : bI ≤ 8
  case neg =>
    have : cfgOk bI fI = false := by unfold cfgOk; simp; omega
    rw [this]
    go_enter Tryz.func53, Tryz.ntmps53
    go_wp2_with fail
    go_ret
    exact ⟨rfl, k1⟩
  by_cases h3 : (2 : Int) ≤ fI
  case neg =>
    have : cfgOk bI fI = false := by unfold cfgOk; simp; omega
    rw [this]
    go_enter Tryz.func53, Tryz.ntmps53
    go_wp2_with fail
    go_ret
    exact ⟨rfl, k1⟩
  by_cases h4 : fI ≤ 4
  case neg =>
    have : cfgOk bI fI = false := by unfold cfgOk; simp; omega
    rw [this]
    go_enter Tryz.func53, Tryz.ntmps53
    go_wp2_with fail
    go_ret
    exact ⟨rfl, k1⟩
  have : cfgOk bI fI = true := by unfold cfgOk; simp; omega
  rw [this]
  go_enter Tryz.func53, Tryz.ntmps53
  go_wp2_with fail
  go_ret
  exact ⟨rfl, k1⟩
set_option maxHeartbeats 2000000 in
theorem disk_any (w : World) : Calls Tryz.prog 125 #[] w fun e w' => e = .returned (.pointer (some ⟨w.heap.size + 1, 0, none⟩)) ∧ Kp [] w w' := by
  have hmm := @run_makeMap Tryz.prog
  go_enter Tryz.func125, Tryz.ntmps125
  go_wp2_with fail
  go_ret
  refine ⟨?_, ((Kp.refl _ _).alloc _).alloc _⟩
  simp
set_option maxHeartbeats 2000000 in
theorem over_any (b f : Nat) (q : Option Addr) (w : World) : Calls Tryz.prog 124 #[.agg #[.int .i64 (b : Int), .int .i64 (f : Int)], .pointer q] w fun e w' => Kp [] w w' ∧ ∃ X hb, e = .returned (.pointer (some ⟨X, 0, none⟩)) ∧ w.heap.size ≤ X ∧ PIs w' X w.heap.size (grow [] w w') (newP b f hb (.pointer q)) := by
  obtain ⟨W1, hW1⟩ : ∃ W1, w.alloc (.cells #[.int .i64 (b : Int), .int .i64 (f : Int)] 74) = W1 := ⟨_, rfl⟩
  have hb : W1.heap[w.heap.size]? = some (.cells #[.int .i64 (b : Int), .int .i64 (f : Int)] 74 (0, 0)) := by rw [← hW1]; exact heap_alloc_new w _
  obtain ⟨c0, c1, f0, f1⟩ := rd_cells hb
  have k1 : Kp [] w W1 := by rw [← hW1]; exact (Kp.refl _ _).alloc _
  have hs1 : W1.heap.size = w.heap.size + 1 := by rw [← hW1]; simp
  have HS := hide hs1
  clear hs1 hb
  have hmm := @run_makeMap Tryz.prog
  go_enter Tryz.func124, Tryz.ntmps124
  go_wp2_with fail
  go_ret
  refine ⟨(k1.alloc _).alloc _, _, W1.heap.size, rfl, ?_, ?_⟩
  · rw [HS.out]; omega
  · have hz : ∀ o, ((W1.alloc (.map #[] 0)).alloc o).heap.size = w.heap.size + 3 := fun o => by simp [HS.out]
    have hz1 := HS.out
    refine newP_is ?_ ?_ ?_ ?_ ?_
    · have := heap_alloc_new (W1.alloc (.map #[] 0)) (.cells (pxC (newP b f W1.heap.size (.pointer q))) 85 (0, 0))
      have e : (W1.alloc (.map #[] 0)).heap.size = W1.heap.size + 1 := by simp
      rw [e] at this
      exact this
    · rw [hz]; omega
    · exact mem_grow.2 (.inr ⟨by omega, by rw [hz]; omega⟩)
    · exact mem_grow.2 (.inr ⟨by omega, by rw [hz]; omega⟩)
    · exact (homIs_made W1).kp (S := []) ((Kp.refl _ _).alloc _) (by simp)
set_option maxHeartbeats 2000000 in
theorem empty_any (b f : Nat) (w : World) : Calls Tryz.prog 54 #[.agg #[.int .i64 (b : Int), .int .i64 (f : Int)]] w fun e w' => Kp [] w w' ∧ ∃ X hb fv, e = .returned (.pointer (some ⟨X, 0, none⟩)) ∧ w.heap.size ≤ X ∧ PIs w' X w.heap.size (grow [] w w') (newP b f hb fv) := by
  obtain ⟨W1, hW1⟩ : ∃ W1, w.alloc (.cells #[.int .i64 (b : Int), .int .i64 (f : Int)] 74) = W1 := ⟨_, rfl⟩
  have hb : W1.heap[w.heap.size]? = some (.cells #[.int .i64 (b : Int), .int .i64 (f : Int)] 74 (0, 0)) := by rw [← hW1]; exact heap_alloc_new w _
  have k1 : Kp [] w W1 := by rw [← hW1]; exact (Kp.refl _ _).alloc _
  have hs1 : W1.heap.size = w.heap.size + 1 := by rw [← hW1]; simp
  have HS := hide hs1
  have hc := fun (W : World) (k : Kp [] W1 W) => rd_cells (k.heap hb (by simp))
  have HC := hide hc
  clear hs1 hb hc
  go_enter Tryz.func54, Tryz.ntmps54
  go_wp2_with fail
  have kd : Kp [] w W1.drew := k1.next ⟨rfl, rfl, rfl, Nat.le_refl _, fun _ _ _ => rfl⟩
  obtain ⟨c0, c1, f0, f1⟩ := HC.out W1.drew ⟨rfl, rfl, rfl, Nat.le_refl _, fun _ _ _ => rfl⟩
  have hcall := disk_any W1.drew
  go_region_with (first
    | (refine hcall.mono ?_
       rintro e w2 ⟨rfl, k2⟩
       have k02 := kd.next k2
       obtain ⟨d0, d1, g0, g1⟩ := HC.out w2 (Kp.next (a := W1) (b := W1.drew) ⟨rfl, rfl, rfl, Nat.le_refl _, fun _ _ _ => rfl⟩ k2))
    | (refine (over_any b f _ _).mono ?_
       rintro e w3 ⟨k3, X, hb, rfl, hX, hi⟩
       have HI := hide hi
       clear hi)
    | fail)
  all_goals
    go_wp2_with fail
    go_ret
    have hs := k02.size
    have k03 := k02.next k3
    refine ⟨k03, X, hb, _, rfl, by omega, (PIs.lower HI.out hs).more ?_⟩
    intro g hg
    rcases mem_grow.1 hg with h1 | h1
    · simp at h1
    · exact mem_grow.2 (.inr ⟨by omega, h1.2⟩)
set_option maxHeartbeats 2000000 in
/-- The program's New. -/
theorem new_any (bI fI : Int) (w : World) :
    Calls Tryz.prog 26 #[.agg #[.int .i64 bI, .int .i64 fI]] w fun e w' => Kp [] w w' ∧ ((cfgOk bI fI = false ∧ e = .returned (.tuple #[.pointer none, .int .i64 1])) ∨
      (cfgOk bI fI = true ∧ ∃ X hb fv, e = .returned (.tuple #[.pointer (some ⟨X, 0, none⟩), .int .i64 0]) ∧ w.heap.size ≤ X ∧ PIs w' X w.heap.size (grow [] w w') (newP bI.toNat fI.toNat hb fv))) := by
  obtain ⟨W1, hW1⟩ : ∃ W1, w.alloc (.cells #[.int .i64 bI, .int .i64 fI] 74) = W1 := ⟨_, rfl⟩
  have hb : W1.heap[w.heap.size]? = some (.cells #[.int .i64 bI, .int .i64 fI] 74 (0, 0)) := by rw [← hW1]; exact heap_alloc_new w _
  obtain ⟨c0, c1, f0, f1⟩ := rd_cells hb
  have k1 : Kp [] w W1 := by rw [← hW1]; exact (Kp.refl _ _).alloc _
  have hs1 : W1.heap.size = w.heap.size + 1 := by rw [← hW1]; simp
  have HS := hide hs1
  have HB := hide hb
  clear hs1 hb
  have hmay := may_any bI fI W1
  cases hc : cfgOk bI fI
  · rw [hc] at hmay
    go_enter Tryz.func26, Tryz.ntmps26
    go_wp2_with fail
    refine hmay.mono ?_
    rintro e w2 ⟨rfl, k2⟩
    go_wp2_with fail
    go_ret2
    exact ⟨k1.next k2, .inl ⟨trivial, rfl⟩⟩
  · rw [hc] at hmay
    have hr : (1 ≤ bI ∧ bI ≤ 8) ∧ 2 ≤ fI ∧ fI ≤ 4 := by unfold cfgOk at hc; simp at hc; omega
    obtain ⟨b, rfl⟩ : ∃ b : Nat, bI = (b : Int) := ⟨bI.toNat, by omega⟩
    obtain ⟨f, rfl⟩ : ∃ f : Nat, fI = (f : Int) := ⟨fI.toNat, by omega⟩
    go_enter Tryz.func26, Tryz.ntmps26
    go_wp2_with fail
    refine hmay.mono ?_
    rintro e w2 ⟨rfl, k2⟩
    obtain ⟨d0, d1, g0, g1⟩ := rd_cells (k2.heap HB.out (by simp))
    go_wp2_with fail
    refine (empty_any b f w2).mono ?_
    rintro e w3 ⟨k3, X, hb, fv, rfl, hX, hi⟩
    have HI := hide hi
    clear hi
    go_wp2_with fail
    go_ret2
    have k02 := k1.next k2
    have hs := k02.size
    refine ⟨k02.next k3, .inr ⟨trivial, X, hb, fv, rfl, by omega, ?_⟩⟩
    refine (PIs.lower HI.out hs).more fun g hg => ?_
    rcases mem_grow.1 hg with h1 | h1
    · simp at h1
    · exact mem_grow.2 (.inr ⟨by omega, h1.2⟩)
end Go.Proofs.YtpdoacfiiledcaaGreatDoor.Pak

