import Derived.Test.YtnffagpdnklnkaaGreatDoorV40
set_option linter.unusedVariables false
set_option linter.unusedSimpArgs false
set_option maxRecDepth 8000
namespace Go.Proofs.YtnffagpdnklnkaaGreatDoor.Pak
open Go.RowKit Go.Proofs.YtnffagpdnklnkaaGreatDoor Go.Proofs.YtnffagpdnklnkaaGreatDoor.Spl SiftM
theorem row_kp {w w' : World} {a : Option Addr} {len cap : Nat} {zs : List Int} (h : Mad.Row w a len cap zs) (hk : ∀ (p : Addr) (v : Value), w.cell? p = some v → (∃ x, a = some x ∧ p.block = x.block) → w'.cell? p = some v) : Mad.Row w' a len cap zs := by
  rcases h with h | ⟨x, e, h1, h2, h3, h4, h5⟩
  · exact .inl h
  · refine .inr ⟨x, e, h1, h2, h3, fun i hi => hk _ _ (h4 i hi) ⟨x, e, ?_⟩, h5⟩
    unfold Addr.add; split <;> rfl
theorem row_kp0 {w w' : World} {a : Option Addr} {len cap : Nat} {zs : List Int} (h : Mad.Row w a len cap zs) (k : Kp [] w w') : Mad.Row w' a len cap zs :=
  row_kp h (fun p v hp _ => k.cellv hp (by simp))
theorem LW.setTh {w : World} {B Wd X tb wb : Nat} {on : Bool} {th : List Bool} {vs : List Value} {wl : List (List (List UInt8))} (h : LW w B Wd X tb wb on th vs wl) (i : Nat) (b : Bool) : LW (w.setCell ⟨tb, i, none⟩ (.bool b)) B Wd X tb wb on (th.set i b) vs wl := by
  have k := kp_set w tb i (.bool b)
  refine ⟨k.heap h.blk (by simpa using cells_ne h.blk h.thb (by decide)), ?_, k.heap h.wob (by simpa using cells_ne h.wob h.thb (by decide)), by simp [h.thl], h.vl, h.wll, fun j v l hv hl => k.owns (h.each j v l hv hl) (fun g hg hx => ?_)⟩
  · rw [heap_setCell_same w tb i _ 4 _ h.thb]
    simp
  · rw [List.mem_singleton.1 hx] at hg
    exact owns_ne_type (h.each j v l hv hl) h.thb (by decide) hg
theorem LW.setWo {w : World} {B Wd X tb wb : Nat} {on : Bool} {th : List Bool} {vs : List Value} {wl : List (List (List UInt8))} (h : LW w B Wd X tb wb on th vs wl) (i : Nat) (v : Value) (l : List (List UInt8)) (hv : w.ownsRow B 9 1 v l.length (strV l)) : LW (w.setCell ⟨wb, i, none⟩ v) B Wd X tb wb on th (vs.set i v) (wl.set i l) := by
  have k := kp_set w wb i v
  refine ⟨k.heap h.blk (by simpa using cells_ne h.blk h.wob (by decide)), k.heap h.thb (by simpa using cells_ne h.thb h.wob (by decide)), ?_, h.thl, by simp [h.vl], by simp [h.wll], fun j u m hu hm => ?_⟩
  · rw [heap_setCell_same w wb i _ 37 _ h.wob]
    simp
  · by_cases e : i = j
    · subst e
      have hi : i < vs.length := by have := (List.getElem?_eq_some_iff.1 hu).1; simpa using this
      have hi2 : i < wl.length := by rw [h.wll, ← h.vl]; exact hi
      rw [List.getElem?_set_self hi] at hu
      rw [List.getElem?_set_self hi2] at hm
      cases hu; cases hm
      exact k.owns hv (fun g hg hx => by rw [List.mem_singleton.1 hx] at hg; exact owns_ne_type hv h.wob (by decide) hg)
    · rw [List.getElem?_set_ne e] at hu hm
      exact k.owns (h.each j u m hu hm) (fun g hg hx => by rw [List.mem_singleton.1 hx] at hg; exact owns_ne_type (h.each j u m hu hm) h.wob (by decide) hg)
theorem LW.setOn {w : World} {B Wd X tb wb : Nat} {on : Bool} {th : List Bool} {vs : List Value} {wl : List (List (List UInt8))} (h : LW w B Wd X tb wb on th vs wl) (b : Bool) : LW (w.setCell ⟨Wd, 3, none⟩ (.bool b)) B Wd X tb wb b th vs wl := by
  have k := kp_set w Wd 3 (.bool b)
  refine ⟨?_, k.heap h.thb (by simpa using cells_ne h.thb h.blk (by decide)), k.heap h.wob (by simpa using cells_ne h.wob h.blk (by decide)), h.thl, h.vl, h.wll, fun j v l hv hl => k.owns (h.each j v l hv hl) (fun g hg hx => ?_)⟩
  · rw [heap_setCell_same w Wd 3 _ 32 _ h.blk]
    rfl
  · rw [List.mem_singleton.1 hx] at hg
    exact owns_ne_type (h.each j v l hv hl) h.blk (by decide) hg
def TI (w : World) (B Wd X n : Nat) (t : TSt) : Prop := TW w B Wd X n t ∧ KOk t.th t.wl t.s.abs.all ∧ t.on = t.mo.isSome
theorem TW.mono {w : World} {B Wd X n n' : Nat} {t : TSt} (h : TW w B Wd X n t) (hn : n ≤ n') : TW w B Wd X n' t :=
  ⟨h.ix, h.fv, h.disk, h.MO, h.dO, h.FO, h.Olt, h.OB, h.tabP, h.tab, h.h0, h.h1, h.hB, h.lit, h.lw, h.lB, h.lO, h.vO, h.mv, h.mrg, h.dok, h.buf, h.fac, Nat.le_trans h.nx hn, h.lstE⟩
theorem nd_len : ∀ (n : Nat) (l : List Nat), l.Nodup → (∀ x ∈ l, x < n) → l.length ≤ n
  | 0, [], _, _ => Nat.le_refl _
  | 0, x :: r, _, h => absurd (h x (by simp)) (by omega)
  | n + 1, l, hnd, h => by
    have h1 := nd_len n (l.erase n) (hnd.erase n) (fun x hx => by
      obtain ⟨h2, h3⟩ := (List.Nodup.mem_erase_iff hnd).1 hx
      have := h x h3
      omega)
    rw [List.length_erase] at h1
    split at h1 <;> omega
/-- There are not many texts. -/
theorem KOk.len {w : World} {X B : Nat} {O : List Nat} {s : PSt} {th : List Bool} {wl : List (List (List UInt8))} (h : KOk th wl s.abs.all) (hP : PIs w X B O s) : s.abs.all.length ≤ 20 := by
  have hnd : (s.abs.all.map Prod.fst).Nodup := by
    have := hP.nodup
    rw [← abs_ids] at this
    exact this
  have h9 := nd_len 20 _ hnd (fun x hx => by
    obtain ⟨y, hy, rfl⟩ := List.mem_map.1 hx
    exact (h.ids y hy).1)
  simpa using h9
theorem DSt.add1_T (d : DSt) (id : Nat) (ws : List (List UInt8)) (h1 : 1 ≤ d.buf) : (d.add1 id ws).T.length < d.buf ∧ (d.add1 id ws).next ≤ d.next + 1 := by
  unfold DSt.add1
  split
  · unfold DSt.flush
    split
    · rename_i h2
      rw [h2]
      exact ⟨by simp; omega, Nat.le_succ _⟩
    · exact ⟨by simp; omega, Nat.le_refl _⟩
  · rename_i h2
    exact ⟨by omega, Nat.le_succ _⟩
/-- Add, behind which the law has yet to write down what it knows. -/
theorem addT (w : World) (B Wd X n id : Nat) (t : TSt) (b : ByteArray) (h : TW w B Wd X n t) (hk : KOk t.th t.wl t.s.abs.all) (hid : id < 20) (hb : b.size ≤ 104) (hn : n < 999990) :
    Calls Tryz.prog 69 #[.pointer (some ⟨X, 0, none⟩), .int .i64 (id : Int), .string b] w fun e w' => e = .returned (.int .i64 0) ∧ Kp t.O w w' ∧ ∃ s' Qs', TW w' B Wd X (n + 1) { t with s := s', O := grow t.O w w', Qs := Qs' } ∧ s'.abs.all.Perm ((id, wordsB b) :: (t.s.abs.gone id).all) := by
  have hlen := hk.len h.ix
  have hE : t.s.abs.addE (id : Int) b = 0 := by
    unfold DSt.addE
    rw [if_neg (by omega), if_neg (by omega), if_neg (by omega)]
  have hA : t.s.abs.add (id : Int) b = t.s.abs.add1 id (wordsB b) := by
    unfold DSt.add
    rw [if_pos hE]; simp
  have hnx := h.nx
  refine (add_any X B t.O t.s (id : Int) b w h.ix h.Olt h.h1 h.tab h.hB (by omega) h.buf.2.2 (by omega)).mono ?_
  rintro e w' ⟨rfl, s', hP, ha, hr, k⟩
  rw [hE]
  rw [hA] at ha
  obtain ⟨hT, hN⟩ := DSt.add1_T t.s.abs id (wordsB b) h.buf.1
  have hG : s'.G.length = (t.s.abs.add1 id (wordsB b)).T.length := by
    have h1 : s'.abs.T = (t.s.abs.add1 id (wordsB b)).srt.T := by rw [ha]
    have h2 : s'.G = sortX (t.s.abs.add1 id (wordsB b)).T := h1
    rw [h2]; exact (List.mergeSort_perm _ _).length_eq
  have hnext : s'.next = (t.s.abs.add1 id (wordsB b)).next := by
    have h1 : s'.abs.next = (t.s.abs.add1 id (wordsB b)).srt.next := by rw [ha]
    exact h1
  have hbuf : s'.buf = t.s.buf := hr.1
  obtain ⟨Qs', hW⟩ := h.step (n' := n + 1) k hP hr (by rw [ha]; exact (h.dok.add1 id _ hid).srt) (by rw [hG, hbuf]; exact hT) (by rw [hnext]; have h9 : t.s.abs.next = t.s.next := rfl; omega)
  refine ⟨rfl, k, s', Qs', hW, ?_⟩
  rw [ha]
  exact (srt_all _).trans (add1_all _ _ _)
theorem set_same {th : List Bool} {i : Nat} (h : th[i]? = some false) : th.set i false = th := by
  apply List.ext_getElem?
  intro j
  by_cases e : i = j
  · subst e
    rw [List.getElem?_set_self (List.getElem?_eq_some_iff.1 h).1, h]
  · rw [List.getElem?_set_ne e]
/-- Delete. -/
theorem delT (w : World) (B Wd X n id : Nat) (b : Bool) (t : TSt) (h : TW w B Wd X n t) (hk : KOk t.th t.wl t.s.abs.all) (hid : id < 20) (hb : t.th[id]? = some b) :
    Calls Tryz.prog 70 #[.pointer (some ⟨X, 0, none⟩), .int .i64 (id : Int)] w fun e w' => e = .returned (.int .i64 (if b then 0 else 6)) ∧ Kp t.O w w' ∧ ∃ s' Qs', TW w' B Wd X n { t with s := s', O := grow t.O w w', Qs := Qs' } ∧ KOk (t.th.set id false) t.wl s'.abs.all := by
  refine (del_any X B t.O t.s (id : Int) w h.ix).mono ?_
  rintro e w' ⟨rfl, s', hP, ha, hr, k⟩
  have hin : b = true ↔ id ∈ t.s.abs.ids := by
    constructor
    · intro hb1
      rw [hb1] at hb
      exact hk.thr id hb
    · intro hi
      obtain ⟨x, hx, rfl⟩ := List.mem_map.1 hi
      have := (hk.ids x hx).2.1
      rw [hb] at this
      exact Option.some.inj this
  have hE : t.s.abs.delE (id : Int) = if b then 0 else 6 := by
    unfold DSt.delE
    rw [if_neg (by omega)]
    simp only [Int.toNat_natCast]
    cases b with
    | true => rw [if_neg (by simpa using hin.1 rfl)]; rfl
    | false => rw [if_pos (fun hi => by have := hin.2 hi; cases this)]; rfl
  have hD : t.s.abs.del (id : Int) = if b then t.s.abs.gone id else t.s.abs := by
    unfold DSt.del
    rw [hE]
    cases b <;> simp
  rw [hD] at ha
  have hbuf : s'.buf = t.s.buf := hr.1
  have hG : s'.G.length ≤ t.s.G.length := by
    have h1 : s'.G = s'.abs.T := rfl
    rw [h1, ha]
    cases b
    · exact Nat.le_refl _
    · exact List.length_filter_le _ _
  have hN : s'.next = t.s.next := by
    have h1 : s'.next = s'.abs.next := rfl
    rw [h1, ha]
    cases b <;> rfl
  obtain ⟨Qs', hW⟩ := h.step (n' := n) k hP hr (by
    rw [ha]
    cases b
    · exact h.dok
    · exact h.dok.gone id) (by rw [hbuf]; have := h.buf.2.2; omega) (by rw [hN]; exact h.nx)
  refine ⟨by rw [hE], k, s', Qs', hW, ?_⟩
  rw [ha]
  cases b with
  | true => exact hk.gone id h.lw.thl hid
  | false => rw [set_same hb]; exact hk
/-- Flush. -/
theorem flushT (w : World) (B Wd X n : Nat) (t : TSt) (h : TW w B Wd X n t) (hk : KOk t.th t.wl t.s.abs.all) (hn : n < 999990) :
    Calls Tryz.prog 30 #[.pointer (some ⟨X, 0, none⟩)] w fun e w' => (∃ b, e = .returned (.tuple #[.bool b, .int .i64 0])) ∧ Kp t.O w w' ∧ ∃ s' Qs', TW w' B Wd X (n + 1) { t with s := s', O := grow t.O w w', Qs := Qs' } ∧ KOk t.th t.wl s'.abs.all := by
  have hnx := h.nx
  refine (Flush_any X B t.O t.s w h.ix h.tab h.hB (by omega)).mono ?_
  rintro e w' ⟨rfl, s', hP, ha, hr, k⟩
  have hbuf : s'.buf = t.s.buf := hr.1
  have hT : t.s.abs.flush.T = [] := by
    unfold DSt.flush
    split
    · assumption
    · rfl
  have hG : s'.G.length = 0 := by
    have h1 : s'.G = s'.abs.T := rfl
    rw [h1, ha, hT]; rfl
  have hN : s'.next ≤ t.s.next + 1 := by
    have h1 : s'.next = s'.abs.next := rfl
    rw [h1, ha]
    unfold DSt.flush
    split
    · exact Nat.le_succ _
    · exact Nat.le_refl _
  obtain ⟨Qs', hW⟩ := h.step (n' := n + 1) k hP hr (by rw [ha]; exact h.dok.flush) (by rw [hbuf, hG]; have := h.buf.1; omega) (by omega)
  exact ⟨⟨_, rfl⟩, k, s', Qs', hW, by rw [ha]; exact hk.perm (flush_all _)⟩
theorem DOk.same {A : Dk} {last : Nat} {d : DSt} (h : DOk A last d) (d' : DSt) (hL : d'.L = d.L) (hn : d'.next = d.next) (hT : d'.T = d.T) : DOk A last d' := h.ofL hn (by rw [hL]) (by rw [hT]; exact h.small.1)
/-- Start. -/
theorem startT (w : World) (B Wd X n : Nat) (t : TSt) (h : TW w B Wd X n t) (hn : n < 999990) :
    Calls Tryz.prog 31 #[.pointer (some ⟨X, 0, none⟩)] w fun e w' => (t.mo.isSome = true ∧ e = .returned (.tuple #[.bool false, .int .i64 10]) ∧ Kp [] w w') ∨ (t.mo = none ∧ e = .returned (.tuple #[.bool false, .int .i64 0]) ∧ Kp [] w w') ∨
      (t.mo = none ∧ e = .returned (.tuple #[.bool true, .int .i64 0]) ∧ Kp [X] w w' ∧ ∃ m sv Bm Qs, TW w' B Wd X n { t with s := { t.s with mv := mvV (some m) }, mo := some m, sv := sv, Bm := Bm, Qs := Qs }) := by
  have hcnt := h.ix.cnt
  have hnx := h.nx
  refine (start_any X B t.O t.s t.mo w h.ix h.mv h.fac.1 (by have := h.fac.2; omega) (by omega)).mono ?_
  intro e w' hp
  rcases hp with h1 | h1 | ⟨h1, m, Qs, h2, h3, h4, h5, h6, h7, h8, k⟩
  · exact .inl h1
  · exact .inr (.inl h1)
  · refine .inr (.inr ⟨h1, h2, k, ?_⟩)
    obtain ⟨sv, hb, hrow⟩ := h5
    have hXO := h.ix.inX
    have hO : ∀ x ∈ [X], x ∈ t.O := fun x hx => by rw [List.mem_singleton.1 hx]; exact hXO
    have hout : ∀ g, g ∉ t.O → g ∉ [X] := fun g hg hx => hg (hO g hx)
    have e1 : (stk0 Qs).map (fun x => (x.1.p, x.2)) = Qs.map stkOf := by simp [stk0, stkOf, Function.comp_def]
    have e2 : (stk0 Qs).length = Qs.length := by simp [stk0]
    refine ⟨m, sv, w.heap.size, stk0 Qs, ⟨h4, h.fv, h.disk.kp k (hout _ h.dO) (hout _ h.MO) (fun f hf g hg => hout g (h.FO f hf g hg)), h.MO, h.dO, h.FO, fun g hg => Nat.lt_of_lt_of_le (h.Olt g hg) k.size, h.OB, h.tabP.kp k (hout _ h.h0), h.tab.kp k (hout _ h.h1), h.h0, h.h1, h.hB, h.lit, h.lw.kp k ⟨hout _ h.lO.1, hout _ h.lO.2.1, hout _ h.lO.2.2⟩ (fun v hv g hg => hout g (h.vO v hv g hg)), h.lB, h.lO, h.vO, rfl, fun m' hm' => ?_, h.dok.same _ rfl rfl rfl, h.buf, h.fac, h.nx, h.lstE⟩⟩
    cases hm'
    have hnO : ∀ g, w.heap.size ≤ g → g ∉ t.O := fun g hg hx => by have := h.Olt g hx; omega
    have hstk : StkOk t.s.Ps (stk0 Qs) := stk_start h.ix h8
    refine ⟨hb, ?_, hstk, ?_, ?_, hnO m h3, fun g hg => hnO g ((hrow.lt g hg).1)⟩
    · simp only
      rw [e1, e2]
      rw [List.length_map] at hrow
      exact hrow
    · intro e9
      simp only at e9
      exact h6 (List.length_eq_zero_iff.1 (by rw [← e2, e9]; rfl))
    · simp only
      rw [e2]; exact h7
/-- Abandon. -/
theorem abandonT (w : World) (B Wd X n : Nat) (t : TSt) (h : TW w B Wd X n t) :
    Calls Tryz.prog 33 #[.pointer (some ⟨X, 0, none⟩)] w fun e w' => e = .returned (.tuple #[.bool t.mo.isSome, .int .i64 0]) ∧ Kp [X] w w' ∧ TW w' B Wd X n { t with s := { t.s with mv := mvV none }, mo := none } := by
  refine (abandon_any X B t.O t.s t.mo w h.ix h.mv).mono ?_
  rintro e w' ⟨he, h4, k⟩
  refine ⟨he, k, ?_⟩
  have hXO := h.ix.inX
  have hO : ∀ x ∈ [X], x ∈ t.O := fun x hx => by rw [List.mem_singleton.1 hx]; exact hXO
  have hout : ∀ g, g ∉ t.O → g ∉ [X] := fun g hg hx => hg (hO g hx)
  exact ⟨h4, h.fv, h.disk.kp k (hout _ h.dO) (hout _ h.MO) (fun f hf g hg => hout g (h.FO f hf g hg)), h.MO, h.dO, h.FO, fun g hg => Nat.lt_of_lt_of_le (h.Olt g hg) k.size, h.OB, h.tabP.kp k (hout _ h.h0), h.tab.kp k (hout _ h.h1), h.h0, h.h1, h.hB, h.lit, h.lw.kp k ⟨hout _ h.lO.1, hout _ h.lO.2.1, hout _ h.lO.2.2⟩ (fun v hv g hg => hout g (h.vO v hv g hg)), h.lB, h.lO, h.vO, rfl, fun m' hm' => (by cases hm'), h.dok.same _ rfl rfl rfl, h.buf, h.fac, h.nx, h.lstE⟩
/-- Finish. -/
theorem finishT (w : World) (B Wd X n : Nat) (t : TSt) (h : TW w B Wd X n t) (hk : KOk t.th t.wl t.s.abs.all) (hn : n < 999990) :
    Calls Tryz.prog 32 #[.pointer (some ⟨X, 0, none⟩)] w fun e w' => e = .returned (.tuple #[.bool t.mo.isSome, .int .i64 0]) ∧ Kp t.O w w' ∧ ∃ s', TW w' B Wd X (n + 1) { t with s := s', O := grow t.O w w', mo := none } ∧ KOk t.th t.wl s'.abs.all := by
  have hz : ∀ w' : World, Kp t.O w w' → ∀ g, g ∉ t.O → g < w.heap.size → g ∉ grow t.O w w' := fun w' k g h1 h2 => not_grow h1 h2
  obtain ⟨l1, l2, l3, l4⟩ := h.lw.lt
  have hMl := h.disk.map.lt
  have hdl := heap_lt h.disk.blk
  have h1w : 1 < w.heap.size := Nat.lt_of_lt_of_le h.hB h.ix.low
  have hfin : ∀ (w' : World) (s' : PSt), Kp t.O w w' → PIs w' X B (grow t.O w w') s' → s'.fv = t.s.fv → s'.lit = t.s.lit → s'.mv = mvV none → s'.last = t.s.last → s'.buf = t.s.buf → s'.G = t.s.G → s'.fac = t.s.fac → DOk (absF t.F) t.s.last s'.abs → s'.next ≤ n + 1 → TW w' B Wd X (n + 1) { t with s := s', O := grow t.O w w', mo := none } := by
    intro w' s' k hP r1 r2 r3 r4 r5 r6 r7 r8 r9
    refine ⟨hP, r1.trans h.fv, h.disk.kp k h.dO h.MO h.FO, not_grow h.MO hMl, not_grow h.dO hdl, fun f hf g hg => not_grow (h.FO f hf g hg) ((h.disk.each f hf).lt g hg).2, ?_, ?_, h.tabP.kp k h.h0, h.tab.kp k h.h1, not_grow h.h0 (by omega), not_grow h.h1 h1w, h.hB, r2.trans h.lit, h.lw.kp k h.lO h.vO, h.lB, ⟨not_grow h.lO.1 l1, not_grow h.lO.2.1 l2, not_grow h.lO.2.2 l3⟩, fun v hv g hg => not_grow (h.vO v hv g hg) (l4 v hv g hg), r3, fun m hm => (by cases hm), ?_, ?_, ?_, r9, r4.trans h.lstE⟩
    · intro g hg
      rcases mem_grow.1 hg with h9 | h9
      · exact Nat.lt_of_lt_of_le (h.Olt g h9) k.size
      · exact h9.2
    · refine ⟨fun g hg => ?_, h.OB.2⟩
      rcases mem_grow.1 hg with h9 | h9
      · exact h.OB.1 g h9
      · exact Nat.le_trans h.ix.low h9.1
    · simp only; rw [r4]; exact r8
    · simp only; rw [r5, r6]; exact h.buf
    · simp only; rw [r7]; exact h.fac
  have hnx := h.nx
  cases hm : t.mo with
  | none =>
    refine (finish_none X B t.O t.s w h.ix (by rw [h.mv, hm])).mono ?_
    rintro e w' ⟨rfl, rfl⟩
    refine ⟨rfl, Kp.refl _ _, t.s, hfin w' t.s (Kp.refl _ _) (h.ix.more fun g hg => mem_grow.2 (.inl hg)) rfl rfl (by rw [h.mv, hm]) rfl rfl rfl rfl h.dok (by omega), hk⟩
  | some m =>
    have hM := h.mrg m hm
    refine (finish_some X B t.Bm m t.O t.s t.Qs w h.ix (by rw [h.mv, hm]) hM.stk hM.is hM.ne hM.few h.tab h.hB h.h1 (by omega)).mono ?_
    rintro e w' ⟨rfl, N, pv, next, hP, hN, hnext, k⟩
    have kO : Kp t.O w w' := k.mono (fun x hx => by
      rcases List.mem_cons.1 hx with rfl | hx
      · exact h.ix.inX
      · rcases List.mem_cons.1 hx with rfl | hx
        · exact h.ix.inH
        · exact h.ix.inP x (by simpa using hx))
    have hsub : ((keptL t.Qs t.s.Ps).map PPt.abs).Sublist t.s.abs.L := List.Sublist.map _ List.filter_sublist
    have hdok : DOk (absF t.F) t.s.last { mrgP t.s t.Qs N pv next with mv := mvV none }.abs := by
      rcases hnext with ⟨e1, e2⟩ | ⟨u, e1, e2, e3, e4⟩
      · refine h.dok.less ?_ e2 rfl
        show ((keptL t.Qs t.s.Ps ++ N).map PPt.abs).Sublist _
        rw [e1, List.append_nil]; exact hsub
      · refine h.dok.more hsub u.abs e2 ?_ e3 h.dok.small.1 (fun x hx => by
          obtain ⟨y, hy, hxy⟩ := e4 x hx
          exact h.dok.small.2 y.abs (List.mem_map.2 ⟨y, hy, rfl⟩) x hxy)
        show (keptL t.Qs t.s.Ps ++ N).map PPt.abs = _
        rw [e1, List.map_append]; rfl
    refine ⟨rfl, kO, _, hfin w' _ kO hP rfl rfl rfl rfl rfl rfl rfl hdok ?_, ?_⟩
    · show next ≤ n + 1
      rcases hnext with ⟨_, e2⟩ | ⟨_, _, _, e3, _⟩ <;> omega
    · exact hk.perm (put_all h.ix hM.stk hN pv next)
/-- What a move leaves. -/
def MovePost (B Wd X n : Nat) (t : TSt) (w : World) (e : Ending) (w' : World) : Prop := e = .returned (.bool true) ∧ Below B w w' ∧ ∃ t', TI w' B Wd X n t' ∧ t'.lst = t.lst ∧ t'.F = t.F
theorem LW.cells {w : World} {B Wd X tb wb : Nat} {on : Bool} {th : List Bool} {vs : List Value} {wl : List (List (List UInt8))} (h : LW w B Wd X tb wb on th vs wl) :
    w.cell? ⟨Wd, 0, none⟩ = some (.pointer (some ⟨X, 0, none⟩)) ∧ w.cell? ⟨Wd, 1, none⟩ = some (.slice (some ⟨tb, 0, none⟩) 20 20) ∧ w.cell? ⟨Wd, 2, none⟩ = some (.slice (some ⟨wb, 0, none⟩) 20 20) ∧ w.cell? ⟨Wd, 3, none⟩ = some (.bool on) ∧ w.frozen? ⟨Wd, 3, none⟩ = false := by
  refine ⟨?_, ?_, ?_, ?_, ?_⟩ <;> simp [World.cell?, World.frozen?, h.blk]
theorem LW.thAt {w : World} {B Wd X tb wb : Nat} {on : Bool} {th : List Bool} {vs : List Value} {wl : List (List (List UInt8))} (h : LW w B Wd X tb wb on th vs wl) (i : Nat) (hi : i < 20) : ∃ b, th[i]? = some b ∧ w.cell? ⟨tb, i, none⟩ = some (.bool b) ∧ w.frozen? ⟨tb, i, none⟩ = false := by
  have hl : i < th.length := by rw [h.thl]; exact hi
  refine ⟨th[i], List.getElem?_eq_getElem hl, ?_, ?_⟩
  · simp [World.cell?, h.thb, hl]
  · simp [World.frozen?, h.thb]
theorem LW.woAt {w : World} {B Wd X tb wb : Nat} {on : Bool} {th : List Bool} {vs : List Value} {wl : List (List (List UInt8))} (h : LW w B Wd X tb wb on th vs wl) (i : Nat) (hi : i < 20) : ∃ v l, vs[i]? = some v ∧ wl[i]? = some l ∧ w.cell? ⟨wb, i, none⟩ = some v ∧ w.frozen? ⟨wb, i, none⟩ = false := by
  have hl : i < vs.length := by rw [h.vl]; exact hi
  have hl2 : i < wl.length := by rw [h.wll]; exact hi
  refine ⟨vs[i], wl[i], List.getElem?_eq_getElem hl, List.getElem?_eq_getElem hl2, ?_, ?_⟩
  · simp [World.cell?, h.wob, hl]
  · simp [World.frozen?, h.wob]
set_option maxHeartbeats 2000000 in
theorem textAdd (w : World) (B Wd X n : Nat) (t : TSt) (a : Int) (la : Option Addr) (ll lc : Nat) (zs : List Int) (h : TI w B Wd X n t) (hr : Mad.Row w la ll lc zs) (a1 : -9223372036854775808 ≤ a) (a2 : a ≤ 9223372036854775807) (hn : n < 999990) :
    Calls Tryz.prog 29 #[.pointer (some ⟨Wd, 0, none⟩), .agg #[.int .i64 1, .int .i64 a, .slice la ll lc]] w fun e w' => MovePost B Wd X (n + 1) t w e w' := by
  obtain ⟨W0, hW0⟩ : ∃ W0, w.alloc (.cells #[.int .i64 1, .int .i64 a, .slice la ll lc] 61) = W0 := ⟨_, rfl⟩
  have k0 : Kp [] w W0 := by rw [← hW0]; exact (Kp.refl _ _).alloc _
  have hb0 : W0.heap[w.heap.size]? = some (.cells #[.int .i64 1, .int .i64 a, .slice la ll lc] 61 (0, 0)) := by rw [← hW0]; exact heap_alloc_new w _
  have m0 : W0.cell? ⟨w.heap.size, 0, none⟩ = some (.int .i64 1) := by simp [World.cell?, hb0]
  have m1 : W0.cell? ⟨w.heap.size, 1, none⟩ = some (.int .i64 a) := by simp [World.cell?, hb0]
  have m2 : W0.cell? ⟨w.heap.size, 2, none⟩ = some (.slice la ll lc) := by simp [World.cell?, hb0]
  have hp := fun W => pickG_any a 20 W (by omega) (by omega) a1 a2
  have hid := pickG_lt a 20 (by omega)
  generalize pickG a 20 = id at hp hid
  have hmade := Mad.made_row la ll lc zs W0 (row_kp0 hr k0)
  have H := hide h
  clear h hr hb0
  go_enter Tryz.func29, Tryz.ntmps29
  go_wp2_with (simp only [hW0])
  refine (hp W0).mono ?_
  rintro e w1 ⟨rfl, rfl⟩
  go_wp2_with fail
  refine hmade.mono ?_
  rintro e W1 ⟨v, bs, l, rfl, hsp, hbs, hl8, hown, hbl⟩
  have k1 : Kp [] w1 W1 := Kp.of_below [] hbl
  have kw1 : Kp [] w W1 := k0.next k1
  obtain ⟨hT, hK, hon⟩ := H.out
  have hT1 := hT.kp0 kw1
  obtain ⟨c0, _, _, _, _⟩ := hT1.lw.cells
  have hadd := addT W1 B Wd X n id t bs hT1 hK hid hbs hn
  obtain ⟨va, vc, ev, _⟩ := owns_forms hown
  subst ev
  have HO := hide hown
  have HSP := hide hsp
  clear hmade hp hown
  go_wp2_with fail
  refine hadd.mono ?_
  rintro e W2 ⟨rfl, k2, s', Qs', hT2, hperm⟩
  have j1 : (0 : Int) ≤ (id : Int) := by omega
  have j2 : (id : Int) < 20 := by omega
  obtain ⟨d0, d1, d2, d3, d4⟩ := hT2.lw.cells
  obtain ⟨b, hb, e1, e2⟩ := hT2.lw.thAt id hid
  simp only at d1 d2 e1 e2
  obtain ⟨W3, hW3⟩ : ∃ W3, W2.setCell ⟨t.tb, id, none⟩ (.bool true) = W3 := ⟨_, rfl⟩
  have k3 : Kp [t.tb] W2 W3 := by rw [← hW3]; exact kp_set _ _ _ _
  have hT3 := hT2.law k3 (.inr (.inl rfl)) (by rw [← hW3]; exact hT2.lw.setTh id true) hT2.vO
  simp only at hT3
  obtain ⟨f0, f1, f2, f3, f4⟩ := hT3.lw.cells
  obtain ⟨ov, ol, hov, hol, g1, g2⟩ := hT3.lw.woAt id hid
  simp only at f1 f2 g1 g2
  have hOlt : ∀ g ∈ t.O, g < w.heap.size := hT.Olt
  have hz0 := k0.size
  have hz1 := k1.size
  have hvO : ∀ g, (Value.slice va l.length vc).ownBlock = some g → g ∉ t.O ∧ g < W1.heap.size := fun g hg => by
    have h9 := HO.out.lt g hg
    exact ⟨fun hx => by have := hOlt g hx; omega, h9.2⟩
  have hown3 : W3.ownsRow B 9 1 (.slice va l.length vc) l.length (strV l) := by
    have h9 := k2.owns HO.out (fun g hg => (hvO g hg).1)
    have h8 := k3.owns h9 (fun g hg hx => by rw [List.mem_singleton.1 hx] at hg; exact owns_ne_type h9 hT2.lw.thb (by decide) hg)
    exact owns_low h8 (by have := hT.ix.low; omega)
  obtain ⟨W4, hW4⟩ : ∃ W4, W3.setCell ⟨t.wb, id, none⟩ (.slice va l.length vc) = W4 := ⟨_, rfl⟩
  have k4 : Kp [t.wb] W3 W4 := by rw [← hW4]; exact kp_set _ _ _ _
  have hT4 := hT3.law k4 (.inr (.inr rfl)) (by rw [← hW4]; exact hT3.lw.setWo id _ l hown3) (fun u hu g hg => by
    rcases List.mem_or_eq_of_mem_set hu with h9 | h9
    · exact hT3.vO u h9 g hg
    · subst h9
      exact not_grow (hvO g hg).1 (hvO g hg).2)
  simp only at hT4
  have hKf : KOk (t.th.set id true) (t.wl.set id l) s'.abs.all := by
    have h9 := hK.add id (wordsB bs) hT.lw.thl hT.lw.wll hid
    have h8 : wordsB bs = l := HSP.out
    rw [h8] at h9 hperm
    exact h9.perm hperm
  have hB1 : Below B w W4 := by
    have hlow := hT.ix.low
    have q1 : Below B w W1 := kw1.below hlow (by simp)
    have q2 : Below B W1 W2 := k2.below (by omega) hT.OB.1
    have q3 : Below B W2 W3 := k3.below (by have := k2.size; omega) (by simpa using hT.lB.2.1)
    have q4 : Below B W3 W4 := k4.below (by have := k2.size; have := k3.size; omega) (by simpa using hT.lB.2.2)
    exact ((q1.trans q2).trans q3).trans q4
  have hfin : MovePost B Wd X (n + 1) t w (.returned (.bool true)) W4 := ⟨rfl, hB1, _, ⟨hT4, hKf, hon⟩, rfl, rfl⟩
  have HF := hide hfin
  clear hfin hT4 hT3 hT2 hT1 hT hK hKf hB1 hown3 hvO hadd hperm
  go_wp2_with (first | simp only [hW3] | simp only [hW4])
  go_ret
  exact HF.out
set_option maxHeartbeats 2000000 in
theorem textDel (w : World) (B Wd X n : Nat) (t : TSt) (a : Int) (la : Option Addr) (ll lc : Nat) (h : TI w B Wd X n t) (a1 : -9223372036854775808 ≤ a) (a2 : a ≤ 9223372036854775807) :
    Calls Tryz.prog 29 #[.pointer (some ⟨Wd, 0, none⟩), .agg #[.int .i64 2, .int .i64 a, .slice la ll lc]] w fun e w' => MovePost B Wd X n t w e w' := by
  obtain ⟨W0, hW0⟩ : ∃ W0, w.alloc (.cells #[.int .i64 2, .int .i64 a, .slice la ll lc] 61) = W0 := ⟨_, rfl⟩
  have k0 : Kp [] w W0 := by rw [← hW0]; exact (Kp.refl _ _).alloc _
  have hb0 : W0.heap[w.heap.size]? = some (.cells #[.int .i64 2, .int .i64 a, .slice la ll lc] 61 (0, 0)) := by rw [← hW0]; exact heap_alloc_new w _
  have m0 : W0.cell? ⟨w.heap.size, 0, none⟩ = some (.int .i64 2) := by simp [World.cell?, hb0]
  have m1 : W0.cell? ⟨w.heap.size, 1, none⟩ = some (.int .i64 a) := by simp [World.cell?, hb0]
  have hp := fun W => pickG_any a 20 W (by omega) (by omega) a1 a2
  have hid := pickG_lt a 20 (by omega)
  generalize pickG a 20 = id at hp hid
  obtain ⟨hT, hK, hon⟩ := h
  have hT1 := hT.kp0 k0
  obtain ⟨c0, _, _, _, _⟩ := hT1.lw.cells
  obtain ⟨b, hb, _, _⟩ := hT1.lw.thAt id hid
  have hdel := delT W0 B Wd X n id b t hT1 hK hid hb
  have HT := hide hT
  have HK := hide hK
  clear hb0 hT hK hT1
  go_enter Tryz.func29, Tryz.ntmps29
  go_wp2_with (simp only [hW0])
  refine (hp W0).mono ?_
  rintro e w1 ⟨rfl, rfl⟩
  go_wp2_with fail
  refine hdel.mono ?_
  rintro e W2 ⟨rfl, k2, s', Qs', hT2, hKf⟩
  have j1 : (0 : Int) ≤ (id : Int) := by omega
  have j2 : (id : Int) < 20 := by omega
  obtain ⟨d0, d1, d2, d3, d4⟩ := hT2.lw.cells
  obtain ⟨b', hb', e1, e2⟩ := hT2.lw.thAt id hid
  simp only at d1 d2 e1 e2 hb'
  obtain rfl : b' = b := by rw [hb] at hb'; exact (Option.some.inj hb').symm
  obtain ⟨W3, hW3⟩ : ∃ W3, W2.setCell ⟨t.tb, id, none⟩ (.bool false) = W3 := ⟨_, rfl⟩
  have k3 : Kp [t.tb] W2 W3 := by rw [← hW3]; exact kp_set _ _ _ _
  have hT3 := hT2.law k3 (.inr (.inl rfl)) (by rw [← hW3]; exact hT2.lw.setTh id false) hT2.vO
  simp only at hT3
  have hB1 : Below B w W3 := by
    have hlow := HT.out.ix.low
    have hz0 := k0.size
    have q1 : Below B w w1 := k0.below hlow (by simp)
    have q2 : Below B w1 W2 := k2.below (by omega) HT.out.OB.1
    have q3 : Below B W2 W3 := k3.below (by have := k2.size; omega) (by simpa using HT.out.lB.2.1)
    exact (q1.trans q2).trans q3
  have hfin : MovePost B Wd X n t w (.returned (.bool true)) W3 := ⟨rfl, hB1, _, ⟨hT3, hKf, hon⟩, rfl, rfl⟩
  have HF := hide hfin
  clear hfin hT3 hT2 hKf hB1 hdel hb hb'
  cases b' with
  | true =>
    go_wp2_with (simp only [hW3])
    go_ret
    exact HF.out
  | false =>
    go_wp2_with (simp only [hW3])
    go_ret
    exact HF.out
theorem TI.kp0 {w w' : World} {B Wd X n : Nat} {t : TSt} (h : TI w B Wd X n t) (k : Kp [] w w') : TI w' B Wd X n t := ⟨h.1.kp0 k, h.2⟩
theorem MovePost.from {w w0 w' : World} {B Wd X n n' : Nat} {t0 : TSt} {e : Ending} (h : MovePost B Wd X n t0 w0 e w') (k : Below B w w0) (hn : n ≤ n') : MovePost B Wd X n' t0 w e w' := by
  obtain ⟨h1, h2, t, h3, h4⟩ := h
  exact ⟨h1, k.trans h2, t, ⟨h3.1.mono hn, h3.2⟩, h4⟩
set_option maxHeartbeats 2000000 in
theorem moveText (w : World) (B Wd X n : Nat) (t : TSt) (kd a : Int) (la : Option Addr) (ll lc : Nat) (zs : List Int) (h : TI w B Wd X n t) (hr : Mad.Row w la ll lc zs) (a1 : -9223372036854775808 ≤ a) (a2 : a ≤ 9223372036854775807) (hn : n < 999990) (hk : kd = 1 ∨ kd = 2) :
    Calls Tryz.prog 17 #[.pointer (some ⟨Wd, 0, none⟩), .agg #[.int .i64 kd, .int .i64 a, .slice la ll lc]] w fun e w' => MovePost B Wd X (n + 1) t w e w' := by
  obtain ⟨W0, hW0⟩ : ∃ W0, w.alloc (.cells #[.int .i64 kd, .int .i64 a, .slice la ll lc] 61) = W0 := ⟨_, rfl⟩
  have k0 : Kp [] w W0 := by rw [← hW0]; exact (Kp.refl _ _).alloc _
  have hb0 : W0.heap[w.heap.size]? = some (.cells #[.int .i64 kd, .int .i64 a, .slice la ll lc] 61 (0, 0)) := by rw [← hW0]; exact heap_alloc_new w _
  have m0 : W0.cell? ⟨w.heap.size, 0, none⟩ = some (.int .i64 kd) := by simp [World.cell?, hb0]
  have m1 : W0.cell? ⟨w.heap.size, 1, none⟩ = some (.int .i64 a) := by simp [World.cell?, hb0]
  have m2 : W0.cell? ⟨w.heap.size, 2, none⟩ = some (.slice la ll lc) := by simp [World.cell?, hb0]
  have hB0 : Below B w W0 := k0.below h.1.ix.low (by simp)
  have htext : Calls Tryz.prog 29 #[.pointer (some ⟨Wd, 0, none⟩), .agg #[.int .i64 kd, .int .i64 a, .slice la ll lc]] W0 fun e w' => MovePost B Wd X (n + 1) t w e w' := by
    rcases hk with rfl | rfl
    · exact (textAdd W0 B Wd X n t a la ll lc zs (h.kp0 k0) (row_kp0 hr k0) a1 a2 hn).mono fun e w' hp => hp.from hB0 (Nat.le_refl _)
    · exact (textDel W0 B Wd X n t a la ll lc (h.kp0 k0) a1 a2).mono fun e w' hp => hp.from hB0 (Nat.le_succ _)
  clear h hr hb0 k0 hB0
  rcases hk with rfl | rfl
  all_goals
    go_enter Tryz.func17, Tryz.ntmps17
    go_wp2_with (simp only [hW0])
    refine htext.mono ?_
    intro e w' hp
    have he := hp.1
    subst he
    have HP := hide hp
    clear htext hp
    go_wp2_with fail
    go_ret
    exact HP.out
set_option maxHeartbeats 2000000 in
theorem moveFlush (w : World) (B Wd X n : Nat) (t : TSt) (a : Int) (la : Option Addr) (ll lc : Nat) (h : TI w B Wd X n t) (hn : n < 999990) :
    Calls Tryz.prog 17 #[.pointer (some ⟨Wd, 0, none⟩), .agg #[.int .i64 3, .int .i64 a, .slice la ll lc]] w fun e w' => MovePost B Wd X (n + 1) t w e w' := by
  obtain ⟨W0, hW0⟩ : ∃ W0, w.alloc (.cells #[.int .i64 3, .int .i64 a, .slice la ll lc] 61) = W0 := ⟨_, rfl⟩
  have k0 : Kp [] w W0 := by rw [← hW0]; exact (Kp.refl _ _).alloc _
  have hb0 : W0.heap[w.heap.size]? = some (.cells #[.int .i64 3, .int .i64 a, .slice la ll lc] 61 (0, 0)) := by rw [← hW0]; exact heap_alloc_new w _
  have m0 : W0.cell? ⟨w.heap.size, 0, none⟩ = some (.int .i64 3) := by simp [World.cell?, hb0]
  have hB0 : Below B w W0 := k0.below h.1.ix.low (by simp)
  have h0 := h.kp0 k0
  obtain ⟨c0, _, _, _, _⟩ := h0.1.lw.cells
  have hcall := flushT W0 B Wd X n t h0.1 h0.2.1 hn
  have H0 := hide h0
  clear h h0 hb0 k0
  go_enter Tryz.func17, Tryz.ntmps17
  go_wp2_with (simp only [hW0])
  refine hcall.mono ?_
  rintro e W2 ⟨⟨b, rfl⟩, k2, s', Qs', hT2, hK2⟩
  have hfin : MovePost B Wd X (n + 1) t w (.returned (.bool true)) W2 := ⟨rfl, hB0.trans (k2.below H0.out.1.ix.low H0.out.1.OB.1), _, ⟨hT2, hK2, H0.out.2.2⟩, rfl, rfl⟩
  have HF := hide hfin
  clear hcall hT2 hK2 hfin
  go_wp2_with fail
  go_ret
  exact HF.out
set_option maxHeartbeats 2000000 in
theorem moveStart (w : World) (B Wd X n : Nat) (t : TSt) (a : Int) (la : Option Addr) (ll lc : Nat) (h : TI w B Wd X n t) (hn : n < 999990) :
    Calls Tryz.prog 17 #[.pointer (some ⟨Wd, 0, none⟩), .agg #[.int .i64 4, .int .i64 a, .slice la ll lc]] w fun e w' => MovePost B Wd X (n + 1) t w e w' := by
  obtain ⟨W0, hW0⟩ : ∃ W0, w.alloc (.cells #[.int .i64 4, .int .i64 a, .slice la ll lc] 61) = W0 := ⟨_, rfl⟩
  have k0 : Kp [] w W0 := by rw [← hW0]; exact (Kp.refl _ _).alloc _
  have hb0 : W0.heap[w.heap.size]? = some (.cells #[.int .i64 4, .int .i64 a, .slice la ll lc] 61 (0, 0)) := by rw [← hW0]; exact heap_alloc_new w _
  have m0 : W0.cell? ⟨w.heap.size, 0, none⟩ = some (.int .i64 4) := by simp [World.cell?, hb0]
  have hB0 : Below B w W0 := k0.below h.1.ix.low (by simp)
  have h0 := h.kp0 k0
  obtain ⟨c0, _, _, _, _⟩ := h0.1.lw.cells
  have hcall := startT W0 B Wd X n t h0.1 hn
  have H0 := hide h0
  clear h h0 hb0 k0
  go_enter Tryz.func17, Tryz.ntmps17
  go_wp2_with (simp only [hW0])
  refine hcall.mono ?_
  rintro e W2 hp
  rcases hp with ⟨hm, rfl, k2⟩ | ⟨hm, rfl, k2⟩ | ⟨hm, rfl, k2, m, sv, Bm, Qs, hT2⟩
  · have h2 := H0.out.kp0 k2
    obtain ⟨d0, d1, d2, d3, d4⟩ := h2.1.lw.cells
    rw [h2.2.2, hm] at d3
    have hfin : MovePost B Wd X (n + 1) t w (.returned (.bool true)) W2 := ⟨rfl, hB0.trans (k2.below H0.out.1.ix.low (by simp)), t, ⟨h2.1.mono (Nat.le_succ _), h2.2⟩, rfl, rfl⟩
    have HF := hide hfin
    clear hcall h2 hfin
    go_wp2_with fail
    go_ret
    exact HF.out
  · have h2 := H0.out.kp0 k2
    obtain ⟨d0, d1, d2, d3, d4⟩ := h2.1.lw.cells
    rw [h2.2.2, hm] at d3
    obtain ⟨W3, hW3⟩ : ∃ W3, W2.setCell ⟨Wd, 3, none⟩ (.bool false) = W3 := ⟨_, rfl⟩
    have k3 : Kp [Wd] W2 W3 := by rw [← hW3]; exact kp_set _ _ _ _
    have hT3 := h2.1.law k3 (.inl rfl) (by rw [← hW3]; exact h2.1.lw.setOn false) h2.1.vO
    have hfin : MovePost B Wd X (n + 1) t w (.returned (.bool true)) W3 := ⟨rfl, (hB0.trans (k2.below H0.out.1.ix.low (by simp))).trans (k3.below h2.1.ix.low (by simpa using h2.1.lB.1)), _, ⟨hT3.mono (Nat.le_succ _), h2.2.1, by simp [hm]⟩, rfl, rfl⟩
    have HF := hide hfin
    clear hcall h2 hfin hT3
    go_wp2_with (simp only [hW3])
    go_ret
    exact HF.out
  · obtain ⟨d0, d1, d2, d3, d4⟩ := hT2.lw.cells
    simp only at d3
    rw [H0.out.2.2, hm] at d3
    obtain ⟨W3, hW3⟩ : ∃ W3, W2.setCell ⟨Wd, 3, none⟩ (.bool true) = W3 := ⟨_, rfl⟩
    have k3 : Kp [Wd] W2 W3 := by rw [← hW3]; exact kp_set _ _ _ _
    have hT3 := hT2.law k3 (.inl rfl) (by rw [← hW3]; exact hT2.lw.setOn true) hT2.vO
    have hfin : MovePost B Wd X (n + 1) t w (.returned (.bool true)) W3 := ⟨rfl, (hB0.trans (k2.below H0.out.1.ix.low (by simpa using H0.out.1.OB.1 X H0.out.1.ix.inX))).trans (k3.below hT2.ix.low (by simpa using hT2.lB.1)), _, ⟨hT3.mono (Nat.le_succ _), H0.out.2.1, rfl⟩, rfl, rfl⟩
    have HF := hide hfin
    clear hcall hfin hT3 hT2
    go_wp2_with (simp only [hW3])
    go_ret
    exact HF.out
end Go.Proofs.YtnffagpdnklnkaaGreatDoor.Pak
