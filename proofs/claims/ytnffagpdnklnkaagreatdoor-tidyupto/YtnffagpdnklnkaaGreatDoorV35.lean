import Derived.Test.YtnffagpdnklnkaaGreatDoorV24
import Derived.Test.YtnffagpdnklnkaaGreatDoorV31
import Derived.Test.YtnffagpdnklnkaaGreatDoorV32
import Derived.Test.YtnffagpdnklnkaaGreatDoorV34
set_option linter.unusedVariables false
set_option linter.unusedSimpArgs false
set_option maxRecDepth 8000
namespace Go.Proofs.YtnffagpdnklnkaaGreatDoor.Pak
open Go.RowKit Go.Proofs.YtnffagpdnklnkaaGreatDoor Go.Proofs.YtnffagpdnklnkaaGreatDoor.Spl SiftM
/-- The docs that a merge takes over, and which of them are dead. -/
def docsOf (Qs : List (PPt × Nat)) : List (Tx × Bool) := Qs.flatMap fun x => (bitsOf x.2).map fun d => (x.1.T.getD d (0, []), x.1.dead.testBit d)
theorem range_cut (n : Nat) (P : Nat → Bool) (hP : ∀ d, n ≤ d → P d = false) : ∀ m, n ≤ m → (List.range m).filter P = (List.range n).filter P := by
  intro m hm
  induction m with
  | zero => have : n = 0 := by omega
            rw [this]
  | succ m ih =>
    by_cases e : n = m + 1
    · rw [e]
    · rw [List.range_succ, List.filter_append, ih (by omega)]
      simp [hP m (by omega)]
theorem live_range (t : PPt) : t.abs.live = ((List.range t.T.length).filter fun d => !t.dead.testBit d).map fun d => t.T.getD d (0, []) := by
  unfold DSg.live PPt.abs PPt.flags
  have e : ∀ n, n ≤ t.T.length → ((((t.T.take n).zip ((List.range n).map fun d => t.dead.testBit d)).filter fun z => !z.2).map Prod.fst) = ((List.range n).filter fun d => !t.dead.testBit d).map fun d => t.T.getD d (0, []) := by
    intro n
    induction n with
    | zero => intro _; simp
    | succ n ih =>
      intro hn
      have hlt : n < t.T.length := by omega
      rw [List.range_succ, List.filter_append, List.map_append, List.map_append, ← ih (by omega), List.take_succ_eq_append_getElem hlt, List.zip_append (by simp; omega), List.filter_append, List.map_append]
      congr 1
      cases hb : t.dead.testBit n <;> simp [hb, fst_getD t.T n hlt, hlt]
  have := e t.T.length (Nat.le_refl _)
  rw [List.take_length] at this
  exact this
def tkn (Qs : List (PPt × Nat)) (p : Nat) : Bool := Qs.any fun x => decide (x.1.p = p)
def keptL (Qs : List (PPt × Nat)) (Ps : List PPt) : List PPt := Ps.filter fun t => !tkn Qs t.p
/-- What a merge holds of the parts is so. -/
structure StkOk (Ps : List PPt) (Qs : List (PPt × Nat)) : Prop where
  mem : ∀ x ∈ Qs, x.1 ∈ Ps
  nd : (Qs.map fun x => x.1.p).Nodup
  mask : ∀ x ∈ Qs, x.2 < 2 ^ x.1.T.length ∧ ∀ d, d < x.1.T.length → x.1.dead.testBit d = false → x.2.testBit d = true
  ids : ((docsOf Qs).map fun y => y.1.1).Nodup
  len : (docsOf Qs).length ≤ 60
theorem live_docs (x : PPt × Nat) (hl : x.1.T.length ≤ 60) (h1 : x.2 < 2 ^ x.1.T.length) (h2 : ∀ d, d < x.1.T.length → x.1.dead.testBit d = false → x.2.testBit d = true) : x.1.abs.live = ((docsOf [x]).filter fun y => !y.2).map Prod.fst := by
  rw [live_range]
  unfold docsOf
  simp only [List.flatMap_cons, List.flatMap_nil, List.append_nil]
  rw [List.filter_map, List.map_map]
  have e : (bitsOf x.2).filter ((fun y : Tx × Bool => !y.2) ∘ fun d => (x.1.T.getD d (0, []), x.1.dead.testBit d)) = (List.range x.1.T.length).filter fun d => !x.1.dead.testBit d := by
    unfold bitsOf
    rw [List.filter_filter]
    rw [range_cut x.1.T.length _ (fun d hd => by
      have : x.2.testBit d = false := Nat.testBit_lt_two_pow (Nat.lt_of_lt_of_le h1 (Nat.pow_le_pow_right (by omega) hd))
      simp [this]) 64 (by omega)]
    apply List.filter_congr
    intro d hd
    have hd' := List.mem_range.1 hd
    cases hb : x.1.dead.testBit d with
    | true => simp [hb]
    | false => simp [hb, h2 d hd' hb]
  rw [e]
  rfl
theorem docs_cons (x : PPt × Nat) (Qs : List (PPt × Nat)) : docsOf (x :: Qs) = docsOf [x] ++ docsOf Qs := by simp [docsOf]
theorem live_all : ∀ (Qs : List (PPt × Nat)), (∀ x ∈ Qs, x.1.T.length ≤ 60 ∧ x.2 < 2 ^ x.1.T.length ∧ ∀ d, d < x.1.T.length → x.1.dead.testBit d = false → x.2.testBit d = true) → ((Qs.map Prod.fst).map PPt.abs).flatMap DSg.live = ((docsOf Qs).filter fun y => !y.2).map Prod.fst
  | [], _ => rfl
  | x :: r, h => by
    have ih := live_all r (fun y hy => h y (List.mem_cons_of_mem _ hy))
    obtain ⟨a, b, c⟩ := h x (by simp)
    rw [docs_cons, List.filter_append, List.map_append, ← ih, ← live_docs x a b c]
    simp
theorem taken_perm {Ps : List PPt} {Qs : List (PPt × Nat)} (hap : Ps.Pairwise fun t u => t.p ≠ u.p) (h : StkOk Ps Qs) : (Ps.filter fun t => tkn Qs t.p).Perm (Qs.map Prod.fst) := by
  have hinj : ∀ t ∈ Ps, ∀ u ∈ Ps, t.p = u.p → t = u := by
    intro t ht u hu e
    obtain ⟨i, hi, rfl⟩ := List.mem_iff_getElem.1 ht
    obtain ⟨j, hj, rfl⟩ := List.mem_iff_getElem.1 hu
    rcases Nat.lt_trichotomy i j with hij | hij | hij
    · exact absurd e (List.pairwise_iff_getElem.1 hap i j hi hj hij)
    · subst hij; rfl
    · exact absurd e.symm (List.pairwise_iff_getElem.1 hap j i hj hi hij)
  have hnd : Ps.Nodup := hap.imp (fun hne e => hne (by rw [e]))
  refine (List.perm_ext_iff_of_nodup (hnd.filter _) ?_).2 fun t => ?_
  · have := h.nd
    rw [show (Qs.map fun x => x.1.p) = (Qs.map Prod.fst).map PPt.p by simp] at this
    exact (List.pairwise_map.1 this).imp (fun hne e => hne (by rw [e]))
  · constructor
    · intro ht
      obtain ⟨h1, h2⟩ := List.mem_filter.1 ht
      obtain ⟨x, hx, hp⟩ := List.any_eq_true.1 h2
      simp at hp
      rw [← hinj _ (h.mem x hx) t h1 hp]
      exact List.mem_map.2 ⟨x, hx, rfl⟩
    · intro ht
      obtain ⟨x, hx, rfl⟩ := List.mem_map.1 ht
      exact List.mem_filter.2 ⟨h.mem x hx, List.any_eq_true.2 ⟨x, hx, by simp⟩⟩
/-- The docs that live are the same, the parts are other. -/
theorem put_live {Ps : List PPt} {Qs : List (PPt × Nat)} (hap : Ps.Pairwise fun t u => t.p ≠ u.p) (hl : ∀ t ∈ Ps, t.T.length ≤ 60) (h : StkOk Ps Qs) {N : List PPt} (hN : ((N.map PPt.abs).flatMap DSg.live).Perm (((docsOf Qs).filter fun y => !y.2).map Prod.fst)) :
    (((keptL Qs Ps ++ N).map PPt.abs).flatMap DSg.live).Perm ((Ps.map PPt.abs).flatMap DSg.live) := by
  have h1 : Ps.Perm (keptL Qs Ps ++ (Ps.filter fun t => tkn Qs t.p)) := by
    have := List.filter_append_perm (fun t : PPt => !tkn Qs t.p) Ps
    simp only [Bool.not_not] at this
    exact this.symm
  have h2 : Ps.Perm (keptL Qs Ps ++ Qs.map Prod.fst) := h1.trans ((taken_perm hap h).append_left _)
  have h3 := (h2.map PPt.abs).flatMap_right DSg.live
  refine List.Perm.trans ?_ h3.symm
  rw [List.map_append, List.map_append, List.flatMap_append, List.flatMap_append]
  refine List.Perm.append_left _ ?_
  rw [live_all Qs (fun x hx => ⟨hl _ (h.mem x hx), h.mask x hx⟩)]
  exact hN
/-- The homes of docs that had homes: they are told anew. -/
theorem homFold_old (T : List Tx) (p : Nat) : ∀ (ds : List Nat) (c : Nat) (f : Nat → Option (Nat × Nat)), (∀ d ∈ ds, (f (T.getD d (0, [])).1).isSome = true) → (ds.map fun d => (T.getD d (0, [])).1).Nodup →
    (homFold T p ds (c, f)).1 = c ∧ ∀ id, (homFold T p ds (c, f)).2 id = (((ds.map fun d => ((T.getD d (0, [])).1, (p, d))).find? fun x => x.1 == id).map Prod.snd).or (f id)
  | [], c, f, _, _ => ⟨rfl, fun id => by simp [homFold]⟩
  | d :: r, c, f, hf, hnd => by
    obtain ⟨i, hi⟩ : ∃ i, (T.getD d (0, [])).1 = i := ⟨_, rfl⟩
    have hfi := hf d (by simp)
    rw [hi] at hfi
    have hst : homStep T p (c, f) d = (c, setAt f i (some (p, d))) := by
      show (if (f (T.getD d (0, [])).1).isSome then c else c + 1, setAt f (T.getD d (0, [])).1 (some (p, d))) = _
      rw [hi, if_pos hfi]
    rw [List.map_cons, hi] at hnd
    obtain ⟨hno, hnd'⟩ := List.nodup_cons.1 hnd
    have ih := homFold_old T p r c (setAt f i (some (p, d))) (fun e he => by
      unfold setAt
      split
      · rfl
      · exact hf e (List.mem_cons_of_mem _ he)) hnd'
    unfold homFold at ih ⊢
    rw [List.foldl_cons, hst]
    refine ⟨ih.1, fun id => ?_⟩
    rw [ih.2 id, List.map_cons, hi]
    by_cases h : id = i
    · subst h
      have hn : (r.map fun d => ((T.getD d (0, [])).1, (p, d))).find? (fun x => x.1 == id) = none := by
        rw [List.find?_eq_none]
        intro x hx e
        obtain ⟨d', hd', rfl⟩ := List.mem_map.1 hx
        simp at e
        exact hno (List.mem_map.2 ⟨d', hd', e⟩)
      rw [hn]
      simp [setAt]
    · have h' : ¬ i = id := fun e => h e.symm
      simp [setAt, h, h']
/-- The block of a row is one of cells. -/
theorem owns_typed {w : World} {B n k g : Nat} {t : TypeId} {v : Value} {xs : List Value} (h : w.ownsRow B t k v n xs) (hg : v.ownBlock = some g) : ∃ cs, w.heap[g]? = some (.cells cs t (0, 0)) := by
  rcases h.2 with ⟨e, _⟩ | ⟨g', cap, cur, e, _, hgg, _⟩
  · rw [e] at hg; simp [Value.ownBlock] at hg
  · rw [e] at hg
    have : g' = g := by simpa [Value.ownBlock] using hg
    subst this
    exact ⟨_, hgg⟩
theorem homF_none {Ps : List PPt} {id : Nat} (h : id ∉ (homL Ps).map Prod.fst) : homF Ps id = none := by
  have := homF_isSome (Ps := Ps) id
  rw [decide_eq_false h] at this
  cases hf : homF Ps id with
  | none => rfl
  | some x => rw [hf] at this; cases this
theorem homL_app (a b : List PPt) : homL (a ++ b) = homL a ++ homL b := by unfold homL; simp
theorem kept_homes {Qs : List (PPt × Nat)} {Ps : List PPt} {x : Nat × (Nat × Nat)} (h : x ∈ homL (keptL Qs Ps)) : x ∈ homL Ps := by
  unfold homL at h ⊢
  obtain ⟨t, ht, hx⟩ := List.mem_flatMap.1 h
  exact List.mem_flatMap.2 ⟨t, (List.mem_filter.1 ht).1, hx⟩
/-- The homes behind a merge, if nothing was put down. -/
theorem put_homes0 {Qs : List (PPt × Nat)} {Ps : List PPt} (hnd : ((homL Ps).map Prod.fst).Nodup) (hp : ((homL (keptL Qs Ps)).map Prod.fst).Perm ((homL Ps).map Prod.fst)) : homF (keptL Qs Ps) = homF Ps := by
  funext id
  have hnd' := hp.nodup_iff.2 hnd
  by_cases h : id ∈ (homL Ps).map Prod.fst
  · obtain ⟨y, hy, rfl⟩ := List.mem_map.1 (hp.mem_iff.2 h)
    rw [(homF_some hnd' y.1 y.2).2 hy, (homF_some hnd y.1 y.2).2 (kept_homes hy)]
  · rw [homF_none h, homF_none (fun h' => h (hp.mem_iff.1 h'))]
/-- The homes behind a merge. -/
theorem put_homes {Qs : List (PPt × Nat)} {Ps : List PPt} {t : PPt} (hn : t.T.length ≤ 60) (hd : t.dead < 18446744073709551616) (hnd : ((homL Ps).map Prod.fst).Nodup) (hp : ((homL (keptL Qs Ps ++ [t])).map Prod.fst).Perm ((homL Ps).map Prod.fst)) :
    (homFold t.T t.p (bitsOf (aliveN t.T.length t.dead)) ((homL Ps).length, homF Ps)).1 = (homL (keptL Qs Ps ++ [t])).length ∧ (homFold t.T t.p (bitsOf (aliveN t.T.length t.dead)) ((homL Ps).length, homF Ps)).2 = homF (keptL Qs Ps ++ [t]) := by
  have he := homes_eq t hn hd
  have hnd' := hp.nodup_iff.2 hnd
  have e1 : homL (keptL Qs Ps ++ [t]) = homL (keptL Qs Ps) ++ t.homes := by rw [homL_app]; simp [homL]
  have hids : (bitsOf (aliveN t.T.length t.dead)).map (fun d => (t.T.getD d (0, [])).1) = t.homes.map Prod.fst := by rw [← he, List.map_map]; rfl
  rw [e1, List.map_append] at hnd' hp
  obtain ⟨hk1, hk2, hk3⟩ := List.pairwise_append.1 hnd'
  obtain ⟨h1, h2⟩ := homFold_old t.T t.p (bitsOf (aliveN t.T.length t.dead)) (homL Ps).length (homF Ps) (fun d hd => by
    rw [homF_isSome]
    have : (t.T.getD d (0, [])).1 ∈ t.homes.map Prod.fst := by rw [← hids]; exact List.mem_map.2 ⟨d, hd, rfl⟩
    simpa using hp.mem_iff.1 (List.mem_append_right _ this)) (by rw [hids]; exact hk2)
  refine ⟨?_, ?_⟩
  · rw [h1, e1]
    have := hp.length_eq
    simp at this ⊢
    omega
  · funext id
    rw [h2 id, he]
    show _ = ((homL (keptL Qs Ps ++ [t])).find? fun x => x.1 == id).map Prod.snd
    rw [e1, List.find?_append]
    cases hf : t.homes.find? fun x => x.1 == id with
    | some y =>
      have hy := List.mem_of_find?_eq_some hf
      have hyi := List.find?_some hf
      simp at hyi
      have hn : (homL (keptL Qs Ps)).find? (fun x => x.1 == id) = none := by
        rw [List.find?_eq_none]
        intro x hx e
        simp at e
        exact hk3 x.1 (List.mem_map.2 ⟨x, hx, rfl⟩) y.1 (List.mem_map.2 ⟨y, hy, rfl⟩) (by rw [e, hyi])
      rw [hn]
      simp
    | none =>
      have hno : id ∉ t.homes.map Prod.fst := by
        intro h
        obtain ⟨y, hy, e⟩ := List.mem_map.1 h
        have := List.find?_eq_none.1 hf y hy
        simp [e] at this
      simp only [Option.map_none, Option.none_or, Option.or_none]
      show homF Ps id = homF (keptL Qs Ps) id
      by_cases h : id ∈ (homL (keptL Qs Ps)).map Prod.fst
      · obtain ⟨y, hy, rfl⟩ := List.mem_map.1 h
        rw [(homF_some hk1 y.1 y.2).2 hy, (homF_some hnd y.1 y.2).2 (kept_homes hy)]
      · rw [homF_none h, homF_none]
        intro h'
        rcases List.mem_append.1 (hp.mem_iff.2 h') with h3 | h3
        · exact h h3
        · exact hno h3
def mrgP (s : PSt) (Qs : List (PPt × Nat)) (N : List PPt) (pv : Value) (next : Nat) : PSt := { s with pv := pv, Ps := keptL Qs s.Ps ++ N, next := next }
theorem put_all {w : World} {X B : Nat} {O : List Nat} {s : PSt} {Qs : List (PPt × Nat)} (h : PIs w X B O s) (hk : StkOk s.Ps Qs) {N : List PPt} (hN : ((N.map PPt.abs).flatMap DSg.live).Perm (((docsOf Qs).filter fun y => !y.2).map Prod.fst)) (pv : Value) (next : Nat) : (mrgP s Qs N pv next).abs.all.Perm s.abs.all := by
  exact (put_live h.apart (fun t ht => (h.each t ht).fine.len) hk hN).append_left _
/-- Behind a merge the program's index is as it must be. -/
theorem mrgP_is {w w' : World} {X B : Nat} {O : List Nat} {s : PSt} {Qs : List (PPt × Nat)} {N : List PPt} {pv : Value} {next : Nat} (h : PIs w X B O s) (hk : StkOk s.Ps Qs) (hN : ((N.map PPt.abs).flatMap DSg.live).Perm (((docsOf Qs).filter fun y => !y.2).map Prod.fst))
    (hnew : N = [] ∧ next = s.next ∨ ∃ t, N = [t] ∧ NewPt w w' t ∧ next = s.next + 1) (hX : w'.heap[X]? = some (.cells (pxC (mrgP s Qs N pv next)) 72 (0, 0)))
    (hP : w'.ownsRow B 76 1 pv (keptL Qs s.Ps ++ N).length (ptV (keptL Qs s.Ps ++ N))) (hm : HomIs w' s.hb (homL (keptL Qs s.Ps ++ N)).length (homF (keptL Qs s.Ps ++ N)))
    (hpv : ∀ g, pv.ownBlock = some g → s.pv.ownBlock = some g ∨ (w.heap.size ≤ g ∧ ∀ t ∈ N, t.hi ≤ g)) (k : Kp (X :: s.hb :: s.pv.ownBlock.toList) w w') : PIs w' X B (grow O w w') (mrgP s Qs N pv next) := by
  have hO : ∀ g ∈ O, g ∈ grow O w w' := fun g hg => mem_grow.2 (.inl hg)
  have hlive := put_live h.apart (fun t ht => (h.each t ht).fine.len) hk hN
  have hids : ((homL (keptL Qs s.Ps ++ N)).map Prod.fst).Perm ((homL s.Ps).map Prod.fst) := by
    rw [homL_ids, homL_ids]; exact hlive.map _
  have hlen : (homL (keptL Qs s.Ps ++ N)).length = (homL s.Ps).length := by have := hids.length_eq; simpa using this
  have hNt : ∀ t ∈ N, NewPt w w' t := fun t ht => by
    rcases hnew with ⟨e, _⟩ | ⟨u, e, hu, _⟩
    · rw [e] at ht; cases ht
    · rw [e] at ht; rw [List.mem_singleton.1 ht]; exact hu
  have hz := k.size
  have hXlt := heap_lt h.blk
  have hHlt := h.hom.lt
  have hplt : ∀ u ∈ s.Ps, u.p < w.heap.size := fun u hu => heap_lt (h.each u hu).cells
  have hS : ∀ x ∈ X :: s.hb :: s.pv.ownBlock.toList, x = X ∨ x = s.hb ∨ s.pv.ownBlock = some x := fun x hx => by
    rcases List.mem_cons.1 hx with e | hx
    · exact .inl e
    · rcases List.mem_cons.1 hx with e | hx
      · exact .inr (.inl e)
      · exact .inr (.inr (by simpa using hx))
  obtain ⟨es, ck, hmap⟩ := h.hmap
  have hmem : ∀ u ∈ keptL Qs s.Ps ++ N, u ∈ s.Ps ∨ u ∈ N := fun u hu => by
    rcases List.mem_append.1 hu with hu | hu
    · exact .inl (List.mem_filter.1 hu).1
    · exact .inr hu
  have hout : ∀ g, OutS s.Ps g → (∀ t ∈ N, g < t.lo ∨ t.hi ≤ g) → OutS (keptL Qs s.Ps ++ N) g := fun g h1 h2 u hu => by
    rcases hmem u hu with hu | hu
    · exact h1 u hu
    · exact h2 u hu
  have hrow : ∀ (e : TypeId) (sz n : Nat) (v : Value) (xs : List Value), e ≠ 72 → e ≠ 76 → w.ownsRow B e sz v n xs → ∀ x ∈ X :: s.hb :: s.pv.ownBlock.toList, v.ownBlock ≠ some x := fun e sz n v xs h1 h2 ho x hx => by
    rcases hS x hx with rfl | rfl | e9
    · exact owns_ne_type ho h.blk h1
    · exact owns_ne_obj ho hmap
    · obtain ⟨cs, hcs⟩ := owns_typed h.parts e9
      exact owns_ne_type ho hcs h2
  refine ⟨hX, h.rd, Nat.le_trans h.low k.size, ?_, h.word, h.sort, hP, ?_, hm, ?_, ?_, ?_, hO X h.inX, fun g hg => hO g (h.inG g hg), fun u hu g hg => hO g (h.inW u hu g hg), ?_, hO _ h.inH, ?_, ?_, ?_, ?_, ?_, ?_, ?_, ?_, ?_⟩
  · exact h.gath.kp k (fun x hx => hrow 50 2 _ _ _ (by decide) (by decide) h.gath.row x hx) (fun i hi x hx => hrow 9 1 _ _ _ (by decide) (by decide) (h.gath.each i (by have := h.gath.len; omega) hi) x hx)
  · intro u hu
    rcases hmem u hu with hu | hu
    · refine (h.each u hu).kp k (fun hx => ?_) (fun x hx => ?_)
      · rcases hS _ hx with e | e | e
        · exact cells_ne (h.each u hu).cells h.blk (by decide) e
        · exact cells_map (h.each u hu).cells hmap e
        · exact owns_ne_type h.parts (h.each u hu).cells (by decide) e
      · rcases hS x hx with rfl | rfl | e
        · exact h.outX u hu
        · exact h.outH u hu
        · exact h.outP x e u hu
    · exact (hNt u hu).is
  · show (keptL Qs s.Ps ++ N).length ≤ next
    have h1 := h.cnt
    have h2 : (keptL Qs s.Ps).length ≤ s.Ps.length := List.length_filter_le _ _
    rw [List.length_append]
    rcases hnew with ⟨e, e2⟩ | ⟨u, e, hu, e2⟩
    · rw [e, e2]; simp; omega
    · rw [e, e2]; simp; omega
  · show s.G.length + (homL (keptL Qs s.Ps ++ N)).length ≤ 60
    have := h.all60
    omega
  · show (s.G.map Prod.fst ++ (homL (keptL Qs s.Ps ++ N)).map Prod.fst).Nodup
    exact (hids.append_left _).nodup_iff.2 h.nodup
  · intro g hg
    rcases hpv g hg with h1 | h1
    · exact hO g (h.inP g h1)
    · exact mem_grow.2 (.inr ⟨h1.1, (hP.lt g hg).2⟩)
  · intro u hu
    rcases hmem u hu with hu | hu
    · exact hO _ (h.inT u hu)
    · have h1 := (hNt u hu).lo; have h2 := (hNt u hu).le; have h3 := (hNt u hu).pl
      exact mem_grow.2 (.inr ⟨by omega, (hNt u hu).ph⟩)
  · intro u hu x h1 h2
    rcases hmem u hu with hu | hu
    · exact hO x (h.inS u hu x h1 h2)
    · have h3 := (hNt u hu).lo; have h4 := (hNt u hu).hi
      exact mem_grow.2 (.inr ⟨by omega, by omega⟩)
  · exact hout X h.outX (fun t ht => .inl (by have := (hNt t ht).lo; omega))
  · intro g hg
    refine hout g (h.outG g hg) (fun t ht => .inl ?_)
    have h1 := (h.gath.row.lt g hg).2; have h2 := (hNt t ht).lo; omega
  · intro g hg
    rcases hpv g hg with h1 | h1
    · exact hout g (h.outP g h1) (fun t ht => .inl (by have := (h.parts.lt g h1).2; have := (hNt t ht).lo; omega))
    · refine hout g (fun u hu => .inr ?_) (fun t ht => .inr (h1.2 t ht))
      have := h.hiLe u hu
      omega
  · exact hout s.hb h.outH (fun t ht => .inl (by have := (hNt t ht).lo; omega))
  · intro u hu
    rcases hmem u hu with hu | hu
    · exact hout _ (h.outT u hu) (fun t ht => .inl (by have := hplt u hu; have := (hNt t ht).lo; omega))
    · have h1 := (hNt u hu).lo; have h2 := (hNt u hu).le; have h3 := (hNt u hu).pl
      refine hout _ (fun v hv => .inr ?_) (fun t ht => .inr ?_)
      · have := h.hiLe v hv
        omega
      · rcases hnew with ⟨e, _⟩ | ⟨u', e, _, _⟩
        · rw [e] at ht; cases ht
        · rw [e] at ht hu
          rw [List.mem_singleton.1 ht, List.mem_singleton.1 hu] 
          rw [← List.mem_singleton.1 hu]; exact h3
  · intro u hu
    rcases hmem u hu with hu | hu
    · exact Nat.le_trans (h.hiLe u hu) hz
    · exact (hNt u hu).hi
  · show (keptL Qs s.Ps ++ N).Pairwise _
    rw [List.pairwise_append]
    refine ⟨h.apart.sublist List.filter_sublist, ?_, fun u hu v hv => ?_⟩
    · rcases hnew with ⟨e, _⟩ | ⟨u', e, _, _⟩
      · rw [e]; exact List.Pairwise.nil
      · rw [e]; exact List.pairwise_singleton _ _
    · have h0 := hplt u (List.mem_filter.1 hu).1
      have h1 := (hNt v hv).lo; have h2 := (hNt v hv).le; have h3 := (hNt v hv).pl
      omega
/-- The segments and the disk: numbers, names, files. -/
structure DOk (A : Dk) (last : Nat) (d : DSt) : Prop where
  lt : ∀ g ∈ d.L, g.num < d.next
  nd : (d.L.map DSg.num).Nodup
  files : ∀ g ∈ d.L, ∀ p, A (segN g.num) = some p → p = (fileT g.T, true)
  names : ∀ x, (A x).isSome = true → (x = comN last ∧ 0 < last) ∨ ∃ j, x = segN j ∧ j < d.next
  small : (∀ x ∈ d.T, x.1 < 20) ∧ ∀ g ∈ d.L, ∀ x ∈ g.T, x.1 < 20
theorem DOk.noNext {A : Dk} {last : Nat} {d : DSt} (h : DOk A last d) (p : List UInt8 × Bool) : A (segN d.next) ≠ some p := fun e => by
  rcases h.names (segN d.next) (by rw [e]; rfl) with ⟨h1, _⟩ | ⟨j, h1, h2⟩
  · exact seg_com _ _ h1
  · have := segN_inj h1; omega
theorem DOk.ofL {A : Dk} {last : Nat} {d d' : DSt} (h : DOk A last d) (hn : d'.next = d.next) (hL : d'.L.map (fun g => (g.num, g.T)) = d.L.map (fun g => (g.num, g.T))) (hT : ∀ x ∈ d'.T, x.1 < 20) : DOk A last d' := by
  have hmem : ∀ g ∈ d'.L, ∃ g0 ∈ d.L, g0.num = g.num ∧ g0.T = g.T := fun g hg => by
    have : (g.num, g.T) ∈ d'.L.map (fun g => (g.num, g.T)) := List.mem_map.2 ⟨g, hg, rfl⟩
    rw [hL] at this
    obtain ⟨g0, h0, e⟩ := List.mem_map.1 this
    injection e with e1 e2
    exact ⟨g0, h0, e1, e2⟩
  refine ⟨fun g hg => ?_, ?_, fun g hg p hp => ?_, fun x hx => by rw [hn]; exact h.names x hx, hT, fun g hg x hx => ?_⟩
  · obtain ⟨g0, h0, e1, e2⟩ := hmem g hg
    rw [hn, ← e1]; exact h.lt g0 h0
  · have := congrArg (List.map Prod.fst) hL
    rw [List.map_map, List.map_map] at this
    have h2 := h.nd
    rw [show d.L.map DSg.num = d.L.map (Prod.fst ∘ fun g => (g.num, g.T)) from rfl, ← this] at h2
    exact h2
  · obtain ⟨g0, h0, e1, e2⟩ := hmem g hg
    rw [← e2]; exact h.files g0 h0 p (by rw [e1]; exact hp)
  · obtain ⟨g0, h0, e1, e2⟩ := hmem g hg
    exact h.small.2 g0 h0 x (by rw [e2]; exact hx)
theorem DOk.gone {A : Dk} {last : Nat} {d : DSt} (h : DOk A last d) (id : Nat) : DOk A last (d.gone id) :=
  h.ofL rfl (by simp [DSt.gone, DSg.mark, Function.comp_def]) (fun x hx => h.small.1 x (List.mem_filter.1 hx).1)
theorem DOk.put {A : Dk} {last : Nat} {d : DSt} (h : DOk A last d) (t : Tx) (ht : t.1 < 20) : DOk A last (d.put t) := h.ofL rfl rfl (fun x hx => by
  unfold DSt.put at hx
  rcases List.mem_append.1 hx with hx | hx
  · exact h.small.1 x hx
  · rw [List.mem_singleton.1 hx]; exact ht)
theorem DOk.srt {A : Dk} {last : Nat} {d : DSt} (h : DOk A last d) : DOk A last d.srt := h.ofL rfl rfl (fun x hx => h.small.1 x ((List.mergeSort_perm d.T _).mem_iff.1 hx))
/-- A segment behind those that are kept. -/
theorem DOk.more {A : Dk} {last : Nat} {d d' : DSt} (h : DOk A last d) {K : List DSg} (hK : K.Sublist d.L) (g : DSg) (hg : g.num = d.next) (hL : d'.L = K ++ [g]) (hn : d'.next = d.next + 1) (hT : ∀ x ∈ d'.T, x.1 < 20) (hgT : ∀ x ∈ g.T, x.1 < 20) : DOk A last d' := by
  refine ⟨fun u hu => ?_, ?_, fun u hu p hp => ?_, fun x hx => ?_, hT, fun u hu x hx => ?_⟩
  · rw [hL] at hu
    rcases List.mem_append.1 hu with hu | hu
    · have := h.lt u (hK.subset hu); omega
    · rw [List.mem_singleton.1 hu]; omega
  · rw [hL, List.map_append, List.nodup_append]
    refine ⟨h.nd.sublist (hK.map _), by simp, ?_⟩
    intro a ha b hb e
    simp at hb
    obtain ⟨u, hu, rfl⟩ := List.mem_map.1 ha
    have := h.lt u (hK.subset hu)
    omega
  · rw [hL] at hu
    rcases List.mem_append.1 hu with hu | hu
    · exact h.files u (hK.subset hu) p hp
    · rw [List.mem_singleton.1 hu, hg] at hp
      exact absurd hp (h.noNext p)
  · rcases h.names x hx with h1 | ⟨j, h1, h2⟩
    · exact .inl h1
    · exact .inr ⟨j, h1, by omega⟩
  · rw [hL] at hu
    rcases List.mem_append.1 hu with hu | hu
    · exact h.small.2 u (hK.subset hu) x hx
    · rw [List.mem_singleton.1 hu] at hx; exact hgT x hx
theorem DOk.less {A : Dk} {last : Nat} {d d' : DSt} (h : DOk A last d) (hK : d'.L.Sublist d.L) (hn : d'.next = d.next) (hT : d'.T = d.T) : DOk A last d' :=
  ⟨fun u hu => by rw [hn]; exact h.lt u (hK.subset hu), h.nd.sublist (hK.map _), fun u hu p hp => h.files u (hK.subset hu) p hp, fun x hx => by rw [hn]; exact h.names x hx, by rw [hT]; exact h.small.1, fun u hu => h.small.2 u (hK.subset hu)⟩
theorem DOk.flush {A : Dk} {last : Nat} {d : DSt} (h : DOk A last d) : DOk A last d.flush := by
  unfold DSt.flush
  split
  · exact h
  · exact h.more (List.Sublist.refl _) ⟨d.next, sortX d.T, List.replicate d.T.length false⟩ rfl rfl rfl (fun x hx => by cases hx) (fun x hx => h.small.1 x ((List.mergeSort_perm d.T _).mem_iff.1 hx))
theorem DOk.add1 {A : Dk} {last : Nat} {d : DSt} (h : DOk A last d) (id : Nat) (ws : List (List UInt8)) (hid : id < 20) : DOk A last (d.add1 id ws) := by
  unfold DSt.add1
  split
  · exact ((h.gone id).put _ hid).flush
  · exact (h.gone id).put _ hid
/-- What is known of the texts is so. -/
structure KOk (th : List Bool) (wl : List (List (List UInt8))) (A : List Tx) : Prop where
  ids : ∀ x ∈ A, x.1 < 20 ∧ th[x.1]? = some true ∧ wl[x.1]? = some x.2
  thr : ∀ i : Nat, th[i]? = some true → i ∈ A.map Prod.fst
theorem KOk.perm {th : List Bool} {wl : List (List (List UInt8))} {A A' : List Tx} (h : KOk th wl A) (hp : A'.Perm A) : KOk th wl A' :=
  ⟨fun x hx => h.ids x (hp.mem_iff.1 hx), fun i hi => (hp.map Prod.fst).mem_iff.2 (h.thr i hi)⟩
theorem KOk.gone {th : List Bool} {wl : List (List (List UInt8))} {d : DSt} (h : KOk th wl d.all) (id : Nat) (hl : th.length = 20) (hid : id < 20) : KOk (th.set id false) wl (d.gone id).all := by
  rw [gone_all]
  refine ⟨fun x hx => ?_, fun i hi => ?_⟩
  · obtain ⟨h1, h2⟩ := List.mem_filter.1 hx
    obtain ⟨a, b, c⟩ := h.ids x h1
    have hne : id ≠ x.1 := fun e => by simp [e] at h2
    exact ⟨a, by rw [List.getElem?_set_ne hne]; exact b, c⟩
  · by_cases e : id = i
    · subst e
      rw [List.getElem?_set_self (by omega)] at hi
      cases hi
    · rw [List.getElem?_set_ne e] at hi
      obtain ⟨x, hx, hxe⟩ := List.mem_map.1 (h.thr i hi)
      refine List.mem_map.2 ⟨x, List.mem_filter.2 ⟨hx, ?_⟩, hxe⟩
      have : ¬ x.1 = id := fun e2 => e (by omega)
      simp [this]
theorem flush_all (d : DSt) : d.flush.all.Perm d.all := by
  unfold DSt.flush
  split
  · exact List.Perm.refl _
  · rename_i hne
    unfold DSt.all
    simp only [List.nil_append, List.flatMap_append, List.flatMap_cons, List.flatMap_nil, List.append_nil]
    have e : (DSg.live ⟨d.next, sortX d.T, List.replicate d.T.length false⟩) = sortX d.T := by
      unfold DSg.live
      simp only
      have hl : (sortX d.T).length = d.T.length := (List.mergeSort_perm d.T _).length_eq
      have h1 : ((sortX d.T).zip (List.replicate d.T.length false)).filter (fun z => !z.2) = (sortX d.T).zip (List.replicate d.T.length false) := List.filter_eq_self.2 fun z hz => by
        have := List.eq_of_mem_replicate (List.of_mem_zip hz).2
        simp [this]
      rw [h1, List.map_fst_zip (by rw [hl]; simp)]
    rw [e]
    exact List.perm_append_comm.trans (List.Perm.append_right _ (List.mergeSort_perm d.T _))
theorem srt_all (d : DSt) : d.srt.all.Perm d.all := by
  unfold DSt.all DSt.srt
  exact List.Perm.append_right _ (List.mergeSort_perm d.T _)
theorem put_all1 (d : DSt) (t : Tx) : (d.put t).all.Perm (t :: d.all) := by
  unfold DSt.all DSt.put
  simp only [List.append_assoc]
  exact (List.perm_append_comm_assoc _ _ _).trans (by simp)
theorem add1_all (d : DSt) (id : Nat) (ws : List (List UInt8)) : (d.add1 id ws).all.Perm ((id, ws) :: (d.gone id).all) := by
  unfold DSt.add1
  split
  · exact (flush_all _).trans (put_all1 _ _)
  · exact put_all1 _ _
theorem KOk.add {th : List Bool} {wl : List (List (List UInt8))} {d : DSt} (h : KOk th wl d.all) (id : Nat) (ws : List (List UInt8)) (hl : th.length = 20) (hwl : wl.length = 20) (hid : id < 20) : KOk (th.set id true) (wl.set id ws) ((id, ws) :: (d.gone id).all) := by
  have hg := h.gone id hl hid
  refine ⟨fun x hx => ?_, fun i hi => ?_⟩
  · rcases List.mem_cons.1 hx with rfl | hx
    · exact ⟨hid, List.getElem?_set_self (by omega), List.getElem?_set_self (by omega)⟩
    · obtain ⟨a, b, c⟩ := hg.ids x hx
      have hne : id ≠ x.1 := fun e => by
        rw [gone_all] at hx
        have := (List.mem_filter.1 hx).2
        simp [e] at this
      rw [List.getElem?_set_ne hne] at b
      exact ⟨a, by rw [List.getElem?_set_ne hne]; exact b, by rw [List.getElem?_set_ne hne]; exact c⟩
  · by_cases e : id = i
    · subst e; simp
    · rw [List.getElem?_set_ne e] at hi
      have := hg.thr i (by rw [List.getElem?_set_ne e]; exact hi)
      rw [List.map_cons]
      exact List.mem_cons_of_mem _ this
end Go.Proofs.YtnffagpdnklnkaaGreatDoor.Pak
