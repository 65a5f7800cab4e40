import Derived.Test.YtnffagpdnklnkaaGreatDoorV33
import Derived.Test.YtnffagpdnklnkaaGreatDoorV32
set_option linter.unusedVariables false
set_option linter.unusedSimpArgs false
set_option maxRecDepth 8000
namespace Go.Proofs.YtnffagpdnklnkaaGreatDoor.Pak
open Go.RowKit Go.Proofs.YtnffagpdnklnkaaGreatDoor Go.Proofs.YtnffagpdnklnkaaGreatDoor.Spl SiftM
/-- The index's own block turns in the number of its last commit, or in its merge; what else turns is not its own. -/
theorem PIs.turnX {S : List Nat} {w w' : World} {X B : Nat} {O : List Nat} {s s' : PSt} (h : PIs w X B O s) (k : Kp (X :: S) w w') (hS : ∀ x ∈ S, x ∉ O) (e : s' = { s with last := s'.last, mv := s'.mv }) (hX : w'.heap[X]? = some (.cells (pxC s') 72 (0, 0))) : PIs w' X B O s' := by
  have hn : ∀ g, g ∈ O → g ≠ X → g ∉ X :: S := fun g hg hne hx => by
    rcases List.mem_cons.1 hx with h1 | h1
    · exact hne h1
    · exact hS g h1 hg
  have far : ∀ {t : TypeId} {size m : Nat} {u : Value} {xs : List Value}, t ≠ 72 → (∀ g, u.ownBlock = some g → g ∈ O) → w.ownsRow B t size u m xs → w'.ownsRow B t size u m xs := fun ht hO hu => k.owns hu (fun gg hgg => hn gg (hO gg hgg) (fun e => by subst e; exact owns_ne_type hu h.blk ht hgg))
  obtain ⟨es, ck, hmap⟩ := h.hmap
  have hR : s'.R = s.R := by rw [e]
  have hgv : s'.gv = s.gv := by rw [e]
  have hG : s'.G = s.G := by rw [e]
  have hgs : s'.gs = s.gs := by rw [e]
  have hpv : s'.pv = s.pv := by rw [e]
  have hPs : s'.Ps = s.Ps := by rw [e]
  have hhb : s'.hb = s.hb := by rw [e]
  have hnx : s'.next = s.next := by rw [e]
  refine ⟨hX, by rw [hR]; exact h.rd, Nat.le_trans h.low k.size, ?_, by rw [hG]; exact h.word, by rw [hG]; exact h.sort, ?_, ?_, ?_, by rw [hPs, hnx]; exact h.cnt, by rw [hG, hPs]; exact h.all60, by rw [hG, hPs]; exact h.nodup, h.inX, by rw [hgv]; exact h.inG, by rw [hgs]; exact h.inW, by rw [hpv]; exact h.inP, by rw [hhb]; exact h.inH, by rw [hPs]; exact h.inT, by rw [hPs]; exact h.inS, by rw [hPs]; exact h.outX, by rw [hgv, hPs]; exact h.outG, by rw [hpv, hPs]; exact h.outP, by rw [hhb, hPs]; exact h.outH, by rw [hPs]; exact h.outT, by rw [hPs]; exact fun t ht => Nat.le_trans (h.hiLe t ht) k.size, by rw [hPs]; exact h.apart⟩
  · rw [hgv, hG, hgs]
    exact ⟨h.gath.len, far (by decide) h.inG h.gath.row, fun i h1 h2 => far (by decide) (h.inW _ (List.getElem_mem _)) (h.gath.each i h1 h2), h.gath.apart⟩
  · rw [hpv, hPs]
    exact far (by decide) h.inP h.parts
  · rw [hPs]
    intro t ht
    refine (h.each t ht).kp k (hn _ (h.inT t ht) (cells_ne (h.each t ht).cells h.blk (by decide))) (fun x hx => ?_)
    rcases List.mem_cons.1 hx with h1 | h1
    · rw [h1]; exact h.outX t ht
    · rcases Nat.lt_or_ge x t.lo with h2 | h2
      · exact .inl h2
      · rcases Nat.lt_or_ge x t.hi with h3 | h3
        · exact absurd (h.inS t ht x h2 h3) (hS x h1)
        · exact .inr h3
  · rw [hhb, hPs]
    exact h.hom.kp k (hn _ h.inH (cells_map h.blk hmap).symm)
/-- The fuse is not lit. -/
theorem spend_any (X : Nat) (w : World) (h : w.cell? ⟨X, 4, none⟩ = some (.bool false)) :
    Calls Tryz.prog 20 #[.pointer (some ⟨X, 4, none⟩)] w fun e w' => e = .returned (.bool true) ∧ w' = w := by
  go_enter Tryz.func20, Tryz.ntmps20
  go_wp2_with fail
  go_ret
  exact ⟨rfl, rfl⟩
/-- What is asked of the files ahead of a step. -/
def okS (A : Dk) : Stp → Prop
  | .sy x => (A x).isSome = true
  | .sd => (A tN).isSome = true
  | .co _ => (A tN).isSome = true
  | _ => True
def lastS (l : Nat) : Stp → Nat
  | .co n => n
  | _ => l
/-- One step, whichever it is: which function it is, and what calling it gives. -/
theorem step_any (B d M X lo n1 nx : Nat) (O : List Nat) (F : List Fl) (s : PSt) (val : Value) (st : Stp) (Ps : List PPt) (w : World) (h : PIs w X B O s) (hfv : s.fv = pt d) (hD : DiskIs w B d M F) (hT : TabP w) (hM : M ∉ O) (hst : StepIs w lo X val st) (hok : okS (absF F) st) (hF : F.length < 10000000)
    (hwr : ∀ t, st = .wr t → PartIs w t) (hdr : ∀ n nx Qs, st = .dr n nx Qs → n < 268435456 ∧ nx < 268435456 ∧ Qs.length ≤ 1000000 ∧ ∀ t ∈ Qs, t.num < 268435456 ∧ t.T.length ≤ 60 ∧ t.dead < 18446744073709551616) (hco : ∀ n, st = .co n → n ≤ 1000000000000) :
    ∃ fid caps, val = .func (.func fid) #[] caps ∧ (∀ args w, (callFunc fid args).run Tryz.prog w = .ok (.enter fid args) w) ∧
      Calls Tryz.prog fid caps w fun e w' => e = .returned (.tuple #[]) ∧ Ran w w' B d M F (runS (absF F) st) ∧ PIs w' X B O { s with last := lastS s.last st } ∧ Kp [M, X] w w' := by
  have hX2 : w.cell? ⟨X, 2, none⟩ = some (pt d) := by simp [World.cell?, h.blk, pxC, pxA, hfv]
  have hself : ({ s with last := s.last } : PSt) = s := rfl
  have keep : ∀ w', Kp [M] w w' → PIs w' X B O { s with last := s.last } := fun w' k => h.kp k (by simpa using hM)
  cases st with
  | wr t =>
    obtain ⟨x, n, p, e, l1, l2, l3, b1, b2, b3⟩ := hst
    refine ⟨39, _, e, enters_of Tryz.func39 (by kernel_rfl) rfl, (step1_any B d M X x n p F t w h.low (bh_bx b1) (bh_bx b2) (bh_bx b3) hX2 hD (hwr t rfl) hF).mono ?_⟩
    rintro r w' ⟨rfl, hr, k⟩
    exact ⟨rfl, hr, keep w' k, k.mono (by simp)⟩
  | sy y =>
    obtain ⟨x, n, e, l1, l2, b1, b2, _⟩ := hst
    refine ⟨42, _, e, enters_of Tryz.func42 (by kernel_rfl) rfl, (step2_any B d M X x n F y w (bh_bx b1) (bh_bx b2) hX2 hD hok hF).mono ?_⟩
    rintro r w' ⟨rfl, hr, k⟩
    exact ⟨rfl, hr, keep w' k, k.mono (by simp)⟩
  | dr n nx Qs =>
    obtain ⟨x, c, v, e, l1, l2, b1, b2, b3⟩ := hst
    obtain ⟨h1, h2, h3, h4⟩ := hdr n nx Qs rfl
    refine ⟨44, _, e, enters_of Tryz.func44 (by kernel_rfl) rfl, (step3_any B d M X x c n nx lo F Qs v w h.low (bh_bx b1) b2 b3 hX2 hD hF h1 h2 h3 h4).mono ?_⟩
    rintro r w' ⟨rfl, hr, k⟩
    exact ⟨rfl, hr, keep w' k, k.mono (by simp)⟩
  | sd =>
    obtain ⟨x, e, l1, b1⟩ := hst
    refine ⟨46, _, e, enters_of Tryz.func46 (by kernel_rfl) rfl, (step4_any B d M X x F w (bh_bx b1) hX2 hD hok hF).mono ?_⟩
    rintro r w' ⟨rfl, hr, k⟩
    exact ⟨rfl, hr, keep w' k, k.mono (by simp)⟩
  | co n =>
    obtain ⟨x, c, u, v, e, l1, l2, b1, b2⟩ := hst
    have hc : w.cell? ⟨c, 0, none⟩ = some (.int .i64 (n : Int)) := by simp [World.cell?, b2]
    refine ⟨47, _, e, enters_of Tryz.func47 (by kernel_rfl) rfl, (step5_any B d M X n x c F s w (bh_bx b1) hc h.blk hfv hD hok (hco n rfl) hT hF).mono ?_⟩
    rintro r w' ⟨rfl, hr, hX', k⟩
    exact ⟨rfl, hr, h.turnX (S := [M]) (k.mono (by simp)) (by simpa using hM) rfl hX', k⟩
  | de y =>
    obtain ⟨x, n, e, l1, l2, b1, b2, hy⟩ := hst
    refine ⟨51, _, e, enters_of Tryz.func51 (by kernel_rfl) rfl, (step6_any B d M X x n F y w (bh_bx b1) (bh_bx b2) hX2 hD hy).mono ?_⟩
    rintro r w' ⟨rfl, hr, k⟩
    exact ⟨rfl, hr, keep w' k, k.mono (by simp)⟩
def runAll (A : Dk) (l : List Stp) : Dk := l.foldl runS A
def lastAll (n : Nat) (l : List Stp) : Nat := l.foldl lastS n
theorem runAll_snoc (A : Dk) (l : List Stp) (st : Stp) : runAll A (l ++ [st]) = runS (runAll A l) st := by simp [runAll]
theorem lastAll_snoc (n : Nat) (l : List Stp) (st : Stp) : lastAll n (l ++ [st]) = lastS (lastAll n l) st := by simp [lastAll]
/-- What each step asks ahead of it. -/
structure Goes (A : Dk) (Ps : List PPt) (sts : List Stp) : Prop where
  ok : ∀ i st, sts[i]? = some st → okS (runAll A (sts.take i)) st
  wr : ∀ t, Stp.wr t ∈ sts → t ∈ Ps
  dr : ∀ n nx Qs, Stp.dr n nx Qs ∈ sts → n < 268435456 ∧ nx < 268435456 ∧ Qs = Ps
  co : ∀ n, Stp.co n ∈ sts → n ≤ 1000000000000
  few : sts.length ≤ 5000000
set_option maxRecDepth 100000 in
set_option maxHeartbeats 4000000 in
theorem commit_any (X B d M : Nat) (O : List Nat) (F : List Fl) (s : PSt) (w : World) (h : PIs w X B O s) (hfv : s.fv = pt d) (hD : DiskIs w B d M F) (hMO : M ∉ O) (hdO : d ∉ O) (hFO : ∀ f ∈ F, ∀ g, f.v.ownBlock = some g → g ∉ O) (hMlt : M < w.heap.size) (hOlt : ∀ g ∈ O, g < w.heap.size) (hT : TabP w) (h0O : 0 ∉ O) (hTab : Tab64 w) (h1O : 1 ∉ O) (hB0 : 1 < B) (hlit : s.lit = false)
    (hnx : s.next < 1000000) (hl : s.last ≤ 1000000) (hF : F.length ≤ 2000000)
    (hgo : ∀ s1 : PSt, s1.abs = s.abs.flush → (toldN (s.last + 1) s1.Ps).Nodup ∧ Goes (absF F) s1.Ps (stepsL F (s.last + 1) s1.next s1.Ps)) :
    Calls Tryz.prog 6 #[.pointer (some ⟨X, 0, none⟩)] w fun e w' => e = .returned (.int .i64 0) ∧ ∃ s1 F' O1, s1.abs = s.abs.flush ∧ Rest s s1 ∧ PIs w' X B O1 { s1 with last := lastAll s.last (stepsL F (s.last + 1) s1.next s1.Ps) } ∧ DiskIs w' B d M F' ∧ absF F' = runAll (absF F) (stepsL F (s.last + 1) s1.next s1.Ps) ∧ Kp (M :: O) w w' ∧
      (∀ g ∈ O1, g ∈ O ∨ (w.heap.size ≤ g ∧ g < w'.heap.size)) ∧ (∀ f ∈ F', ∀ g, f.v.ownBlock = some g → g ∉ O1) := by
  have x6 := px_down h
  have h0X : X ≠ 0 := fun e => h0O (e ▸ h.inX)
  have h0M : M ≠ 0 := fun e => by
    obtain ⟨es, ck, em⟩ := hD.map.block
    have := hT
    unfold TabP Lib.TabIs World.var? at this
    rw [gPow] at this
    simp only [Option.bind_some] at this
    rw [e] at em
    rw [em] at this
    simp at this
  have hf := flush_any X B O s w h hTab hB0 hnx
  have HD := hide hD
  have HT := hide hT
  have HX := hide h
  clear h hD hT hTab
  go_enter Tryz.func6, Tryz.ntmps6
  go_wp2_with fail
  refine hf.mono ?_
  rintro e W1 ⟨rfl, hr⟩
  obtain ⟨s1, hP1, hab, hrest, k1⟩ := hr
  obtain ⟨hnd, hgoes⟩ := hgo s1 hab
  have r1 := hrest
  obtain ⟨_, _, rfv, rlast, rlit, _, _, _, _⟩ := r1
  have hnx1 : s1.next ≤ s.next + 1 := by
    have h1 : s1.abs.next = s1.next := rfl
    have h2 : s.abs.next = s.next := rfl
    rw [← h1, hab]
    unfold DSt.flush
    split <;> simp [h2]
  have hcnt := hP1.cnt
  have hfO : ∀ x, x ∉ O → x < w.heap.size → x ∉ grow O w W1 := fun x hx hlt hm => by
    rcases mem_grow.1 hm with h1 | h1
    · exact hx h1
    · omega
  have hdlt : d < w.heap.size := heap_lt HD.out.blk
  have hD1 : DiskIs W1 B d M F := HD.out.kp k1 hdO hMO hFO
  have hT1 := HT.out.kp k1 h0O
  rw [← rlast] at hnd hgoes hl
  have hst := steps_any X B d M s1.Ps.length (grow O w W1) F s1 W1 hP1 (rfv.trans hfv) hD1 hT1 rfl (by omega) hl (by omega) hF hnd
  have HP1 := hide hP1
  have HD1 := hide hD1
  have HT1 := hide hT1
  have HGO := hide hgoes
  have hM1 : M ∉ grow O w W1 := hfO M hMO hMlt
  have hz1 := k1.size
  have HREST := hide hrest
  have HAB := hide hab
  obtain ⟨sts, hsts⟩ : ∃ sts, stepsL F (s1.last + 1) s1.next s1.Ps = sts := ⟨_, rfl⟩
  have hXlt : X < W1.heap.size := heap_lt hP1.blk
  have hfew := hgoes.few
  rw [hsts] at hst HGO hfew
  clear hf hgo hP1 hD1 hT1 hgoes hrest hab hnd
  go_wp2_with fail
  refine hst.mono ?_
  rintro e W2 ⟨lv, vals, rfl, hlv, hS2, k2⟩
  have hlen := hS2.len
  obtain ⟨la, lc, elv, hla⟩ := owns_forms hlv
  subst elv
  obtain ⟨m, hm⟩ : ∃ m, vals.length = m := ⟨_, rfl⟩
  rw [hm] at hlv hla hlen
  rw [hm]
  have HL2 := hide hlv
  have HS2 := hide hS2
  have HP2 := hide (HP1.out.kp k2 (by simp))
  have HD2 := hide (HD1.out.kp k2 (by simp) (by simp) (by simp))
  have HT2 := hide (HT1.out.kp k2 (by simp))
  have hz2 := k2.size
  have HM := hide hm
  clear hst hlv hS2 hm
  go_wp2_with fail
  go_loopw [14] (fun iv wr => ∃ (i : Nat) (Fi : List Fl), i ≤ m ∧ iv = .int .i64 (i : Int) ∧ Hid (PIs wr X B (grow O w W1) { s1 with last := lastAll s1.last (sts.take i) }) ∧ Hid (DiskIs wr B d M Fi) ∧ Hid (absF Fi = runAll (absF F) (sts.take i)) ∧ Fi.length ≤ F.length + i ∧ Hid (∀ f ∈ Fi, ∀ g, f.v.ownBlock = some g → g ∉ grow O w W1) ∧ Hid (Kp [M, X] W2 wr)) (fun iv _ => m - (intOf iv).toNat)
  case atStart => exact ⟨0, F, by omega, rfl, HP2, HD2, by show _ = _; rfl, by omega, fun f hf g hg => hfO g (hFO f hf g hg) (HD.out.each f hf |>.lt g hg).2, Kp.refl _ _⟩
  case round =>
    obtain ⟨i, Fi, hi, rfl, hPi, hDi, hAi, hFi, hBi, hKi⟩ := hrel
    have hzi := hKi.out.size
    by_cases hlt : i < m
    · obtain ⟨g, rfl⟩ := hla (by omega)
      have hiV : i < vals.length := by rw [HM.out]; exact hlt
      have hiS : i < sts.length := by omega
      have hnMX : ∀ x, W1.heap.size ≤ x → x ∉ [M, X] := fun x hx hm => by simp at hm; omega
      have hrow := hKi.out.owns HL2.out (fun g' hg' => hnMX g' (HL2.out.lt g' hg').1)
      have hcell := hrow.cellAt i (by omega)
      rw [List.getElem?_eq_getElem hiV] at hcell
      have hstep := HS2.out.each i _ _ (List.getElem?_eq_getElem hiV) (List.getElem?_eq_getElem hiS)
      have hstw := hstep.kp hKi.out (fun x hx => by simp at hx; omega)
      have hok := HGO.out.ok i _ (List.getElem?_eq_getElem hiS)
      rw [← hAi.out] at hok
      have hmem : sts[i] ∈ sts := List.getElem_mem hiS
      have htk : sts.take (i + 1) = sts.take i ++ [sts[i]] := take_snocL sts i hiS
      obtain ⟨val, hval⟩ : ∃ val, vals[i] = val := ⟨_, rfl⟩
      obtain ⟨st, hstt⟩ : ∃ st, sts[i] = st := ⟨_, rfl⟩
      rw [hval] at hcell hstw
      rw [hstt] at hstw hok hmem htk
      have hTi : TabP wr := (HT2.out.kp hKi.out (fun hx => by
        simp at hx
        rcases hx with e | e
        · exact h0M e.symm
        · exact h0X e.symm))
      have hPd := hPi.out
      have hrun := step_any B d M X W1.heap.size 0 0 (grow O w W1) Fi { s1 with last := lastAll s1.last (sts.take i) } val st s1.Ps wr hPd (rfv.trans hfv) hDi.out hTi hM1 hstw hok (by omega)
        (fun t e => by subst e; exact hPd.each t (HGO.out.wr t hmem))
        (fun n nx Qs e => by
          subst e
          obtain ⟨a1, a2, a3⟩ := HGO.out.dr n nx Qs hmem
          subst a3
          exact ⟨a1, a2, by omega, fun t ht => ⟨by have := (hPd.each t ht).nlt; omega, (hPd.each t ht).fine.len, (hPd.each t ht).dlt⟩⟩)
        (fun n e => by subst e; exact HGO.out.co n hmem)
      obtain ⟨fid, caps, rfl, eg, hcall⟩ := hrun
      have x4 : wr.cell? ⟨X, 4, none⟩ = some (.bool false) := by
        have : s1.lit = false := rlit.trans hlit
        simp [World.cell?, hPd.blk, pxC, pxA, this]
      have hsp := spend_any X wr x4
      have j1 : (0 : Int) ≤ (i : Int) := by omega
      have j2 : (i : Int) < (m : Int) := by omega
      have HTK := hide htk
      clear hrow hstep hstw hok hmem htk hPd hval hstt
      go_wp2_with fail
      refine hsp.mono ?_
      rintro e w3 ⟨rfl, rfl⟩
      go_wp2_with (simp only [eg])
      refine hcall.mono ?_
      rintro e W4 ⟨rfl, hr4, hP4, k4⟩
      obtain ⟨F4, hD4, hA4, hl4, hb4⟩ := hr4.ex
      have hB5 : Hid (∀ f ∈ F4, ∀ g, f.v.ownBlock = some g → g ∉ grow O w W1) := fun f hf g hg => by
        rcases hb4 f hf g hg with ⟨f0, hf0, e0⟩ | h9
        · exact hBi.out f0 hf0 g (by rw [e0]; exact hg)
        · intro hm
          rcases mem_grow.1 hm with h1 | h1
          · have := hOlt g h1; omega
          · omega
      have hP5 : Hid (PIs W4 X B (grow O w W1) { s1 with last := lastAll s1.last (sts.take (i + 1)) }) := by
        show PIs _ _ _ _ _
        rw [HTK.out, lastAll_snoc]
        exact hP4
      have hA5 : Hid (absF F4 = runAll (absF F) (sts.take (i + 1))) := by
        show _ = _
        rw [HTK.out, runAll_snoc, hA4, hAi.out]
      have hD5 := hide hD4
      have hK5 := hide (hKi.out.next k4)
      clear hcall hr4 hP4 hD4 hA4 k4 hsp x4 hb4
      go_wp2_with fail
      go_roundw
      case rel => exact ⟨i + 1, F4, by omega, by go_num, hP5, hD5, hA5, by omega, hB5, hK5⟩
      case measure => simp [intOf]; omega
    · have hin : i = m := by omega
      subst hin
      have hts : sts.take i = sts := List.take_of_length_le (by omega)
      have hPe := hPi.out
      have hAe := hAi.out
      rw [hts] at hPe hAe
      have hke : Kp (M :: O) w wr := by
        refine ((k1.mono (fun x hx => List.mem_cons_of_mem _ hx)).next (k2.mono (by simp))).next (hKi.out.mono (fun x hx => ?_))
        simp at hx
        rcases hx with e | e
        · simp [e]
        · rw [e]; exact List.mem_cons_of_mem _ HX.out.inX
      go_wp2_with fail
      go_ret
      refine ⟨rfl, s1, Fi, grow O w W1, HAB.out, HREST.out, ?_, hDi.out, ?_, hke, fun g hg => ?_, hBi.out⟩
      · rw [← rlast, hsts]; exact hPe
      · rw [← rlast, hsts]; exact hAe
      · rcases mem_grow.1 hg with h1 | h1
        · exact .inl h1
        · exact .inr ⟨h1.1, by omega⟩
theorem runAll_app (A : Dk) (l r : List Stp) : runAll A (l ++ r) = runAll (runAll A l) r := by simp [runAll]
theorem lastAll_app (n : Nat) (l r : List Stp) : lastAll n (l ++ r) = lastAll (lastAll n l) r := by simp [lastAll]
def OkAll (A : Dk) : List Stp → Prop
  | [] => True
  | st :: r => okS A st ∧ OkAll (runS A st) r
theorem okAll_app : ∀ (l r : List Stp) (A : Dk), OkAll A l → OkAll (runAll A l) r → OkAll A (l ++ r)
  | [], r, A, _, h => h
  | st :: l, r, A, h1, h2 => ⟨h1.1, okAll_app l r (runS A st) h1.2 h2⟩
theorem okAll_at : ∀ (sts : List Stp) (A : Dk), OkAll A sts → ∀ (i : Nat) (st : Stp), sts[i]? = some st → okS (runAll A (sts.take i)) st
  | [], A, _, i, st, h => by simp at h
  | s :: r, A, h, 0, st, he => by simp at he; subst he; exact h.1
  | s :: r, A, h, i + 1, st, he => by
    have := okAll_at r (runS A s) h.2 i st (by simpa using he)
    simpa [runAll] using this
/-- The segments' files are written. -/
theorem parts_run (F : List Fl) : ∀ (Ps : List PPt) (A : Dk), (Ps.map PPt.num).Nodup → OkAll A (partS F Ps) ∧ ∀ n, lastAll n (partS F Ps) = n ∧ ∀ x, runAll A (partS F Ps) x = (match Ps.find? (fun t => decide (segN t.num = x ∧ x ∉ nms F)) with | some t => some (fileT t.T, true) | none => A x)
  | [], A, _ => ⟨trivial, fun n => ⟨rfl, fun x => rfl⟩⟩
  | t :: r, A, hnd => by
    have hnd' := List.nodup_cons.1 hnd
    by_cases hm : segN t.num ∈ nms F
    · have e : partS F (t :: r) = partS F r := by unfold partS; rw [List.filter_cons_of_neg (by simp [hm])]
      obtain ⟨h1, h2⟩ := parts_run F r A hnd'.2
      rw [e]
      refine ⟨h1, fun n => ⟨(h2 n).1, fun x => ?_⟩⟩
      rw [(h2 n).2 x, List.find?_cons_of_neg]
      simp only [decide_eq_true_eq, not_and, Classical.not_not]
      intro e2
      rw [← e2]
      exact hm
    · have e : partS F (t :: r) = [.wr t, .sy (segN t.num)] ++ partS F r := by unfold partS; rw [List.filter_cons_of_pos (by simp [hm])]; rfl
      have hA : runAll A [.wr t, .sy (segN t.num)] = updD A (segN t.num) (some (fileT t.T, true)) := by
        funext x
        simp only [runAll, List.foldl_cons, List.foldl_nil, runS, updD]
        by_cases e2 : x = segN t.num <;> simp [e2]
      obtain ⟨h1, h2⟩ := parts_run F r (updD A (segN t.num) (some (fileT t.T, true))) hnd'.2
      rw [e]
      refine ⟨okAll_app _ _ _ ⟨trivial, by simp [okS, runS, updD], trivial⟩ (by rw [hA]; exact h1), fun n => ⟨by rw [lastAll_app]; exact (h2 n).1, fun x => ?_⟩⟩
      rw [runAll_app, hA, (h2 n).2 x]
      by_cases e2 : segN t.num = x
      · have hno : r.find? (fun t => decide (segN t.num = x ∧ x ∉ nms F)) = none := by
          rw [List.find?_eq_none]
          intro u hu
          simp only [decide_eq_true_eq, not_and]
          intro e3
          exact absurd (List.mem_map.2 ⟨u, hu, segN_inj (e3.trans e2.symm)⟩) hnd'.1
        rw [hno, List.find?_cons_of_pos (by simp [e2]; rw [← e2]; exact hm)]
        simp [updD, e2]
      · rw [List.find?_cons_of_neg (by simp [e2])]
        cases r.find? (fun t => decide (segN t.num = x ∧ x ∉ nms F)) with
        | some u => rfl
        | none => simp [updD, Ne.symm e2]
/-- Files are deleted. -/
theorem dels_run : ∀ (l : List (List UInt8)) (A : Dk), OkAll A (l.map .de) ∧ ∀ n, lastAll n (l.map .de) = n ∧ ∀ x, runAll A (l.map .de) x = if x ∈ l then none else A x
  | [], A => ⟨trivial, fun n => ⟨rfl, fun x => by simp [runAll]⟩⟩
  | y :: l, A => by
    obtain ⟨h1, h2⟩ := dels_run l (updD A y none)
    refine ⟨⟨trivial, h1⟩, fun n => ⟨(h2 n).1, fun x => ?_⟩⟩
    have h3 := (h2 n).2 x
    have h4 : runAll A ((y :: l).map .de) x = runAll (updD A y none) (l.map .de) x := rfl
    rw [h4, h3]
    by_cases e1 : x ∈ l
    · rw [if_pos e1, if_pos (List.mem_cons_of_mem _ e1)]
    · rw [if_neg e1]
      by_cases e2 : x = y
      · rw [if_pos (by simp [e2])]; simp [updD, e2]
      · rw [if_neg (by simp [e1, e2])]; simp [updD, e2]
/-- What a disk may hold ahead of a commit. -/
structure DskOk (A : Dk) (last nx : Nat) (Ps : List PPt) : Prop where
  names : ∀ x, (A x).isSome = true → (x = comN last ∧ 0 < last) ∨ ∃ j, x = segN j ∧ j < nx
  files : ∀ t ∈ Ps, ∀ p, A (segN t.num) = some p → p = (fileT t.T, true)
/-- What it holds behind it. -/
def dskOf (n nx : Nat) (Ps : List PPt) : Dk := fun x => if x = comN n then some (comB n nx Ps, true) else (Ps.find? fun t => decide (segN t.num = x)).map fun t => (fileT t.T, true)
theorem toldN_nodup (n : Nat) (Ps : List PPt) (h : (Ps.map PPt.num).Nodup) : (toldN n Ps).Nodup := by
  unfold toldN
  refine List.nodup_cons.2 ⟨fun hx => ?_, ?_⟩
  · obtain ⟨t, _, e⟩ := List.mem_map.1 hx
    exact seg_com _ _ e
  · have : (Ps.map fun t => segN t.num) = (Ps.map PPt.num).map segN := by simp
    rw [this]
    exact List.Pairwise.map segN (fun a b hne e => hne (segN_inj e)) h
theorem commit_goes (F : List Fl) (last nx0 nx : Nat) (Ps : List PPt) (h : DskOk (absF F) last nx0 Ps) (hnd : (Ps.map PPt.num).Nodup) (hl : last ≤ 1000000) (hnx : nx < 268435456) (hPs : Ps.length ≤ 1000000) (hF : F.length ≤ 2000000) (hFnd : (nms F).Nodup) :
    (toldN (last + 1) Ps).Nodup ∧ Goes (absF F) Ps (stepsL F (last + 1) nx Ps) ∧ lastAll last (stepsL F (last + 1) nx Ps) = last + 1 ∧ runAll (absF F) (stepsL F (last + 1) nx Ps) = dskOf (last + 1) nx Ps := by
  obtain ⟨p1, p2⟩ := parts_run F Ps (absF F) hnd
  obtain ⟨n1, hn1⟩ : ∃ n1, last + 1 = n1 := ⟨_, rfl⟩
  rw [hn1]
  obtain ⟨A1, hA1⟩ : ∃ A1, runAll (absF F) (partS F Ps) = A1 := ⟨_, rfl⟩
  have hmid : ∀ x, runAll A1 [.dr n1 nx Ps, .sd, .co n1] x = if x = comN n1 then some (comB n1 nx Ps, true) else if x = tN then none else A1 x := by
    intro x
    have ht := com_t n1
    simp only [runAll, List.foldl_cons, List.foldl_nil, runS, updD]
    by_cases e1 : x = comN n1
    · simp [e1, ht]
    · by_cases e2 : x = tN
      · simp [e2, Ne.symm ht]
      · simp [e1, e2]
  obtain ⟨A2, hA2⟩ : ∃ A2, runAll A1 [.dr n1 nx Ps, .sd, .co n1] = A2 := ⟨_, rfl⟩
  rw [hA2] at hmid
  obtain ⟨d1, d2⟩ := dels_run (othersL F (toldN n1 Ps)) A2
  have hokm : OkAll A1 [.dr n1 nx Ps, .sd, .co n1] := ⟨trivial, by simp [okS, runS, updD], by simp [okS, runS, updD], trivial⟩
  refine ⟨toldN_nodup n1 Ps hnd, ⟨?_, ?_, ?_, ?_, ?_⟩, ?_, ?_⟩
  · apply okAll_at
    unfold stepsL
    refine okAll_app _ _ _ (okAll_app _ _ _ p1 (by rw [hA1]; exact hokm)) ?_
    rw [runAll_app, hA1, hA2]
    exact d1
  · intro t ht
    unfold stepsL partS at ht
    simp only [List.mem_append, List.mem_flatMap, List.mem_filter, List.mem_cons, List.not_mem_nil, or_false, List.mem_map] at ht
    rcases ht with (⟨u, ⟨hu, _⟩, e | e⟩ | e | e | e) | ⟨y, _, e⟩
    · injection e with e; rw [e]; exact hu
    all_goals cases e
  · intro n nx' Qs ht
    unfold stepsL partS at ht
    simp only [List.mem_append, List.mem_flatMap, List.mem_filter, List.mem_cons, List.not_mem_nil, or_false, List.mem_map] at ht
    rcases ht with (⟨u, ⟨hu, _⟩, e | e⟩ | e | e | e) | ⟨y, _, e⟩
    · cases e
    · cases e
    · injection e with e1 e2 e3
      subst e1 e2 e3
      exact ⟨by omega, hnx, rfl⟩
    all_goals cases e
  · intro n ht
    unfold stepsL partS at ht
    simp only [List.mem_append, List.mem_flatMap, List.mem_filter, List.mem_cons, List.not_mem_nil, or_false, List.mem_map] at ht
    rcases ht with (⟨u, ⟨hu, _⟩, e | e⟩ | e | e | e) | ⟨y, _, e⟩
    · cases e
    · cases e
    · cases e
    · cases e
    · injection e with e; omega
    · cases e
  · have h1 := partS_len F Ps
    have h2 : (othersL F (toldN n1 Ps)).length ≤ F.length := by
      unfold othersL
      have := List.length_filter_le (fun x => !decide (x ∈ toldN n1 Ps)) (sortN (nms F))
      rw [sortN_len] at this
      simpa [nms] using this
    unfold stepsL
    simp only [List.length_append, List.length_map, List.length_cons, List.length_nil]
    omega
  · unfold stepsL
    rw [lastAll_app, lastAll_app, (p2 last).1, (d2 _).1]
    rfl
  · funext x
    unfold stepsL
    rw [runAll_app, runAll_app, hA1, hA2, (d2 0).2 x, hmid x]
    have hp := (p2 0).2 x
    rw [hA1] at hp
    rw [hp]
    have hin : x ∈ othersL F (toldN n1 Ps) ↔ x ∈ nms F ∧ x ∉ toldN n1 Ps := by
      unfold othersL
      rw [List.mem_filter, sortN_mem]
      simp
    unfold dskOf
    by_cases e1 : x = comN n1
    · rw [if_pos e1, if_pos e1, if_neg]
      rw [hin]
      intro hh
      exact hh.2 (by rw [e1]; simp [toldN])
    · rw [if_neg e1, if_neg e1]
      cases hfind : Ps.find? (fun t => decide (segN t.num = x)) with
      | some t =>
        have htP := List.mem_of_find?_eq_some hfind
        have hte : segN t.num = x := by simpa using List.find?_some hfind
        have hnx' : x ∉ othersL F (toldN n1 Ps) := by
          rw [hin]
          intro hh
          exact hh.2 (by rw [← hte]; exact List.mem_cons_of_mem _ (List.mem_map.2 ⟨t, htP, rfl⟩))
        have hxt : x ≠ tN := by rw [← hte]; exact seg_t _
        rw [if_neg hnx', if_neg hxt]
        by_cases hm : x ∈ nms F
        · have hno : Ps.find? (fun t => decide (segN t.num = x ∧ x ∉ nms F)) = none := by
            rw [List.find?_eq_none]
            intro u _
            simp [hm]
          rw [hno]
          obtain ⟨p, hpp⟩ := Option.isSome_iff_exists.1 ((absF_is x).2 hm)
          have := h.files t htP p (by rw [hte]; exact hpp)
          rw [hpp, this]
          rfl
        · have hyes : Ps.find? (fun t => decide (segN t.num = x ∧ x ∉ nms F)) = some t := by
            rw [← hfind]
            congr 1
            funext u
            simp [hm]
          rw [hyes]
          rfl
      | none =>
        have hno : Ps.find? (fun t => decide (segN t.num = x ∧ x ∉ nms F)) = none := by
          rw [List.find?_eq_none] at hfind ⊢
          intro u hu
          have := hfind u hu
          simp only [decide_eq_true_eq] at this ⊢
          exact fun hh => this hh.1
        rw [hno]
        have hnt : x ∉ toldN n1 Ps := by
          unfold toldN
          intro hx
          rcases List.mem_cons.1 hx with e2 | e2
          · exact e1 e2
          · obtain ⟨u, hu, e3⟩ := List.mem_map.1 e2
            have := List.find?_eq_none.1 hfind u hu
            simp [e3] at this
        by_cases hm : x ∈ nms F
        · rw [if_pos (hin.2 ⟨hm, hnt⟩)]
          rfl
        · rw [if_neg (fun hh => hm (hin.1 hh).1), absF_none hm]
          by_cases e2 : x = tN <;> simp [e2]
end Go.Proofs.YtnffagpdnklnkaaGreatDoor.Pak
