import Derived.Test.YtnffagpdnklnkaaGreatDoorV21
import Derived.Test.YtnffagpdnklnkaaGreatDoorV16
import Derived.Deep.RegionHeld3
import Derived.BigQuiet
import Derived.Deep.QuietTactic
import Derived.RangeFuncCalls
import Derived.OrdersIn
set_option linter.unusedVariables false
set_option linter.unusedSimpArgs false
set_option maxRecDepth 8000
namespace Go.Proofs.YtnffagpdnklnkaaGreatDoor.Pak
open Go.RowKit Go.Proofs.YtnffagpdnklnkaaGreatDoor Go.Proofs.YtnffagpdnklnkaaGreatDoor.Spl SiftM
set_option maxHeartbeats 1000000 in
theorem gatAt_any (X B id : Nat) (gv : Value) (G : List Tx) (gs : List Value) (w : World) (hc : w.cell? ⟨X, 7, none⟩ = some gv) (hg : TextsIs w B gv G gs) (hs : SortT G) (hn : G.length ≤ 60) :
    Calls Tryz.prog 148 #[.pointer (some ⟨X, 0, none⟩), .int .i64 (id : Int)] w fun e w' => e = .returned (.tuple #[.int .i64 (aheadN G id : Nat), .bool (decide (id ∈ G.map Prod.fst))]) ∧ Kp [] w w' := by
  obtain ⟨a, c, rfl, _⟩ := owns_forms hg.row
  have hcall := gsearch_any B G.length id _ G gs w hg rfl hs (by omega)
  clear hg
  go_enter Tryz.func148, Tryz.ntmps148
  go_wp2_with fail
  refine hcall.mono ?_
  rintro e w1 ⟨rfl, k1⟩
  clear hcall
  go_wp2_with fail
  go_ret2
  exact ⟨rfl, k1⟩
set_option maxHeartbeats 1000000 in
theorem has_any (X B id hb c : Nat) (gv : Value) (G : List Tx) (gs : List Value) (f : Nat → Option (Nat × Nat)) (w : World) (hc : w.cell? ⟨X, 7, none⟩ = some gv) (hh : w.cell? ⟨X, 9, none⟩ = some (.map (some hb))) (hg : TextsIs w B gv G gs) (hs : SortT G) (hn : G.length ≤ 60) (hm : HomIs w hb c f) (hid : id ≤ 1000000) :
    Calls Tryz.prog 109 #[.pointer (some ⟨X, 0, none⟩), .int .i64 (id : Int)] w fun e w' => e = .returned (.bool (decide (id ∈ G.map Prod.fst) || (f id).isSome)) ∧ Kp [] w w' := by
  have hcall := gatAt_any X B id gv G gs w hc hg hs hn
  have HM := hide hm
  obtain ⟨b1, e1⟩ : ∃ b, decide (id ∈ G.map Prod.fst) = b := ⟨_, rfl⟩
  obtain ⟨b2, e2⟩ : ∃ b, (f id).isSome = b := ⟨_, rfl⟩
  rw [e1, e2]
  rw [e1] at hcall
  have E2 := hide e2
  clear hg hm e1 e2
  cases b1
  all_goals
    go_enter Tryz.func109, Tryz.ntmps109
    go_wp2_with fail
    refine hcall.mono ?_
    rintro e w1 ⟨rfl, k1⟩
    have hh1 := k1.cellv hh (by simp)
    obtain ⟨v, hlook, hv1, hv2⟩ := (HM.out.kp k1 (by simp)).look id (by omega)
    have hv : ∃ (u0 : Option Addr) (u1 : Int), v = .agg #[.pointer u0, .int .i64 u1] := by
      cases hf : f id with
      | none => exact ⟨_, _, hv2 hf⟩
      | some x => exact ⟨_, _, hv1 x hf⟩
    obtain ⟨u0, u1, rfl⟩ := hv
    rw [E2.out] at hlook
    clear hcall hv1 hv2
    go_wp2_with (simp only [hlook])
    go_ret
    exact ⟨rfl, k1.alloc _⟩
set_option maxHeartbeats 1000000 in
theorem size_any (X B hb c n : Nat) (a : Option Addr) (cg : Nat) (f : Nat → Option (Nat × Nat)) (w : World) (hc : w.cell? ⟨X, 7, none⟩ = some (.slice a n cg)) (hh : w.cell? ⟨X, 9, none⟩ = some (.map (some hb))) (hm : HomIs w hb c f) (hn : n ≤ 1000000) (hcn : c ≤ 1000000) :
    Calls Tryz.prog 110 #[.pointer (some ⟨X, 0, none⟩)] w fun e w' => e = .returned (.int .i64 ((n + c : Nat) : Int)) ∧ Kp [] w w' := by
  have hlen := fun (w' : World) (h : HomIs w' hb c f) => h.len
  have hl := hlen w.drew (hm.kp (S := []) ⟨rfl, rfl, rfl, Nat.le_refl _, fun _ _ _ => rfl⟩ (by simp)) 3
  have hw : IntKind.i64.wrap ((n : Int) + (c : Int)) = (n : Int) + (c : Int) := by rw [IntKind.wrap_i64]; omega
  clear hlen hm
  go_enter Tryz.func110, Tryz.ntmps110
  go_wp2_with fail
  go_region
  go_wp2_with fail
  go_ret
  exact ⟨rfl, ⟨rfl, rfl, rfl, Nat.le_refl _, fun _ _ _ => rfl⟩⟩
theorem pxC_set7 (s : PSt) (x : Value) : (pxC s).setIfInBounds 7 x = pxC { s with gv := x } := by simp [pxC, pxA]
theorem pxC_set8 (s : PSt) (x : Value) : (pxC s).setIfInBounds 8 x = pxC { s with pv := x } := by simp [pxC, pxA]
theorem pxC_set10 (s : PSt) (x : Nat) : (pxC s).setIfInBounds 10 (.int .i64 (x : Int)) = pxC { s with next := x } := by simp [pxC, pxA]
theorem tx2_take (xs : List (Nat × Value)) (i : Nat) : (tx2 xs).take (i * 2) = tx2 (xs.take i) := by
  induction xs generalizing i with
  | nil => simp [tx2]
  | cons x r ih =>
    cases i with
    | zero => simp [tx2]
    | succ i =>
      have := ih i
      simp only [tx2, List.flatMap_cons, List.take_succ_cons] at this ⊢
      rw [show (i + 1) * 2 = i * 2 + 2 by omega]
      simp [this]
theorem tx2_drop (xs : List (Nat × Value)) (i : Nat) : (tx2 xs).drop (i * 2) = tx2 (xs.drop i) := by
  induction xs generalizing i with
  | nil => simp [tx2]
  | cons x r ih =>
    cases i with
    | zero => simp [tx2]
    | succ i =>
      have := ih i
      simp only [tx2, List.flatMap_cons, List.drop_succ_cons] at this ⊢
      rw [show (i + 1) * 2 = i * 2 + 2 by omega]
      simp [this]
theorem tx2_append (xs ys : List (Nat × Value)) : tx2 (xs ++ ys) = tx2 xs ++ tx2 ys := by simp [tx2]
theorem texts_one {w : World} {B : Nat} {v : Value} {T : List Tx} {vs : List Value} (h : TextsIs w B v T vs) : ∀ u ∈ tx2 ((T.map Prod.fst).zip vs), u.oneCell' = true := by
  intro u hu
  unfold tx2 at hu
  obtain ⟨p, hp, hq⟩ := List.mem_flatMap.1 hu
  simp at hq
  rcases hq with rfl | rfl
  · rfl
  · have h1 := (List.of_mem_zip (a := p.1) (b := p.2) hp).2
    obtain ⟨i, hi, e⟩ := List.mem_iff_getElem.1 h1
    have h2 := h.each i (by rw [← h.len]; exact hi) hi
    rw [e] at h2
    obtain ⟨a9, c9, e9, _⟩ := owns_forms h2
    rw [e9]; rfl
/-- The gathered texts without the one at a place. -/
def cutAt {α : Type} (l : List α) (i : Nat) : List α := l.take i ++ l.drop (i + 1)
theorem cut_filter (T : List Tx) (hs : SortT T) (id : Nat) (h : id ∈ T.map Prod.fst) : cutAt T (aheadN T id) = T.filter fun t => !decide (t.1 = id) := by
  obtain ⟨hlt, he⟩ := (ahead_has T hs id).1 h
  unfold cutAt
  have e : T = T.take (aheadN T id) ++ T[aheadN T id] :: T.drop (aheadN T id + 1) := by
    rw [List.getElem_cons_drop, List.take_append_drop]
  conv => rhs; rw [e]
  rw [List.filter_append, List.filter_cons, if_neg (by simp [he])]
  have h1 : (T.take (aheadN T id)).filter (fun t => !decide (t.1 = id)) = T.take (aheadN T id) := by
    rw [List.filter_eq_self]
    intro t ht
    obtain ⟨i, hi, rfl⟩ := List.mem_iff_getElem.1 ht
    rw [List.length_take] at hi
    rw [List.getElem_take]
    have := (ahead_at T hs id i (by omega)).2 (by omega)
    simp; omega
  have h2 : (T.drop (aheadN T id + 1)).filter (fun t => !decide (t.1 = id)) = T.drop (aheadN T id + 1) := by
    rw [List.filter_eq_self]
    intro t ht
    obtain ⟨i, hi, rfl⟩ := List.mem_iff_getElem.1 ht
    rw [List.length_drop] at hi
    rw [List.getElem_drop]
    have := List.pairwise_iff_getElem.1 hs (aheadN T id) (aheadN T id + 1 + i) hlt (by omega) (by omega)
    rw [he] at this
    simp; omega
  rw [h1, h2]
theorem filter_not (T : List Tx) (id : Nat) (h : id ∉ T.map Prod.fst) : T.filter (fun t => !decide (t.1 = id)) = T := by
  rw [List.filter_eq_self]
  intro t ht
  have : t.1 ≠ id := fun e => h (List.mem_map.2 ⟨t, ht, e⟩)
  simpa using this
theorem cells_ne {w : World} {a b : Nat} {c1 c2 : Array Value} {t1 t2 : TypeId} {f1 f2 : Nat × Nat} (h1 : w.heap[a]? = some (.cells c1 t1 f1)) (h2 : w.heap[b]? = some (.cells c2 t2 f2)) (h : t1 ≠ t2) : a ≠ b := by
  rintro rfl
  rw [h1] at h2
  simp at h2
  exact h h2.2.1
theorem cells_map {w : World} {a b : Nat} {c1 : Array Value} {t1 : TypeId} {f1 : Nat × Nat} {es : Array MapEntry} {ck : Nat} (h1 : w.heap[a]? = some (.cells c1 t1 f1)) (h2 : w.heap[b]? = some (.map es ck)) : a ≠ b := by
  rintro rfl
  rw [h1] at h2
  simp at h2
theorem PIs.hmap {w : World} {X B : Nat} {O : List Nat} {s : PSt} (h : PIs w X B O s) : ∃ es ck, w.heap[s.hb]? = some (.map es ck) := h.hom.block
/-- What is written is the index's own block, or that of the gathered texts: all else is as it was. -/
theorem PIs.restG {S : List Nat} {w w' : World} {X B : Nat} {O : List Nat} {s : PSt} (h : PIs w X B O s) (k : Kp S w w') (hS : ∀ x ∈ S, x = X ∨ s.gv.ownBlock = some x) :
    w'.ownsRow B 76 1 s.pv s.Ps.length (ptV s.Ps) ∧ (∀ t ∈ s.Ps, PartIs w' t) ∧ HomIs w' s.hb (homL s.Ps).length (homF s.Ps) ∧ ∀ {m : Nat} {u : Value} {xs : List Value}, w.ownsRow B 9 1 u m xs → w'.ownsRow B 9 1 u m xs := by
  obtain ⟨es, ck, hmap⟩ := h.hmap
  have hgb : ∀ g, s.gv.ownBlock = some g → ∃ cur, w.heap[g]? = some (.cells cur 50 (0, 0)) := by
    intro g hg
    rcases h.gath.row.2 with ⟨e, _⟩ | ⟨g', cap, cur, e, _, hb, _⟩
    · rw [e] at hg; simp [Value.ownBlock] at hg
    · rw [e] at hg; simp [Value.ownBlock] at hg
      subst hg; exact ⟨cur, hb⟩
  have far : ∀ {e : TypeId} {size m : Nat} {u : Value} {xs : List Value}, e ≠ 72 → e ≠ 50 → w.ownsRow B e size u m xs → w'.ownsRow B e size u m xs := fun he1 he2 hu => k.owns hu (fun gg hgg hx => by
    rcases hS gg hx with rfl | hx
    · exact owns_ne_type hu h.blk he1 hgg
    · obtain ⟨cur, hc⟩ := hgb gg hx
      exact owns_ne_type hu hc he2 hgg)
  refine ⟨far (by decide) (by decide) h.parts, fun t ht => (h.each t ht).kp k ?_ ?_, h.hom.kp k ?_, far (by decide) (by decide)⟩
  · intro hx
    rcases hS _ hx with e | e
    · exact cells_ne (h.each t ht).cells h.blk (by decide) e
    · obtain ⟨cur, hc⟩ := hgb _ e
      exact cells_ne (h.each t ht).cells hc (by decide) rfl
  · intro x hx
    rcases hS x hx with rfl | e
    · exact h.outX t ht
    · exact h.outG x e t ht
  · intro hx
    rcases hS _ hx with e | e
    · exact cells_map h.blk hmap e.symm
    · obtain ⟨cur, hc⟩ := hgb _ e
      exact cells_map hc hmap rfl
/-- The gathered texts are others now. -/
theorem PIs.turnG {S : List Nat} {w w' : World} {X B : Nat} {O O' : List Nat} {s : PSt} {v : Value} {G : List Tx} {gs : List Value} (h : PIs w X B O s) (k : Kp S w w') (hS : ∀ x ∈ S, x = X ∨ s.gv.ownBlock = some x) (hX : w'.heap[X]? = some (.cells (pxC { s with gv := v, G := G, gs := gs }) 72 (0, 0)))
    (hT : TextsIs w' B v G gs) (hw : ∀ t ∈ G, t.1 ≤ 99999 ∧ t.2.length ≤ 60 ∧ (lenF t.2 ≤ 120 ∧ sumL t.2 ≤ 121) ∧ ∀ x ∈ t.2, isWord x = true) (hso : SortT G) (h60 : G.length + (homL s.Ps).length ≤ 60) (hnd : (G.map Prod.fst ++ (homL s.Ps).map Prod.fst).Nodup)
    (hO : ∀ g ∈ O, g ∈ O') (hgO : ∀ g, v.ownBlock = some g → g ∈ O' ∧ OutS s.Ps g) (hgs : ∀ u ∈ gs, ∀ g, u.ownBlock = some g → g ∈ O') : PIs w' X B O' { s with gv := v, G := G, gs := gs } := by
  obtain ⟨r1, r2, r3, _⟩ := h.restG k hS
  exact ⟨hX, h.rd, Nat.le_trans h.low k.size, hT, hw, hso, r1, r2, r3, h.cnt, h60, hnd, hO X h.inX, fun g hg => (hgO g hg).1, hgs, fun g hg => hO g (h.inP g hg), hO _ h.inH, fun t ht => hO _ (h.inT t ht), fun t ht x h1 h2 => hO x (h.inS t ht x h1 h2), h.outX, fun g hg => (hgO g hg).2, h.outP, h.outH, h.outT, fun t ht => Nat.le_trans (h.hiLe t ht) k.size, h.apart⟩
theorem mem_cut {α : Type} {l : List α} {i : Nat} {x : α} (h : x ∈ cutAt l i) : x ∈ l := by
  rcases List.mem_append.1 h with h | h
  · exact List.mem_of_mem_take h
  · exact List.mem_of_mem_drop h
theorem cut_sub {α : Type} (l : List α) (i : Nat) : (cutAt l i).Sublist l := by
  unfold cutAt
  have : l = l.take i ++ l.drop i := (List.take_append_drop i l).symm
  conv => rhs; rw [this]
  refine List.Sublist.append (List.Sublist.refl _) ?_
  rw [← List.drop_drop]
  exact List.drop_sublist _ _
theorem cut_len {α : Type} (l : List α) (i : Nat) (h : i < l.length) : (cutAt l i).length = l.length - 1 := by
  unfold cutAt
  rw [List.length_append, List.length_take, List.length_drop]; omega
def insAt {α : Type} (l : List α) (i : Nat) (x : α) : List α := l.take i ++ [x] ++ l.drop i
theorem cut_zip {α β : Type} (l : List α) (m : List β) (i : Nat) (h : l.length = m.length) : (cutAt l i).zip (cutAt m i) = cutAt (l.zip m) i := by
  unfold cutAt
  rw [List.zip_append (by rw [List.length_take, List.length_take, h])]
  congr 1
  · simp only [List.zip, List.take_zipWith]
  · simp only [List.zip, List.drop_zipWith]
theorem insA_zip {α β : Type} (l : List α) (m : List β) (i : Nat) (x : α) (y : β) (h : l.length = m.length) : (insAt l i x).zip (insAt m i y) = insAt (l.zip m) i (x, y) := by
  unfold insAt
  rw [List.zip_append (by simp [h]), List.zip_append (by simp [h])]
  congr 1
  · congr 1
    simp only [List.zip, List.take_zipWith]
  · simp only [List.zip, List.drop_zipWith]
theorem cut_map {α β : Type} (f : α → β) (l : List α) (i : Nat) : (cutAt l i).map f = cutAt (l.map f) i := by
  unfold cutAt; simp [List.map_take, List.map_drop]
theorem insA_map {α β : Type} (f : α → β) (l : List α) (i : Nat) (x : α) : (insAt l i x).map f = insAt (l.map f) i (f x) := by
  unfold insAt; simp [List.map_take, List.map_drop]
theorem mem_insA {α : Type} {l : List α} {i : Nat} {x y : α} (h : y ∈ insAt l i x) : y = x ∨ y ∈ l := by
  unfold insAt at h
  rcases List.mem_append.1 h with h | h
  · rcases List.mem_append.1 h with h | h
    · exact .inr (List.mem_of_mem_take h)
    · exact .inl (by simpa using h)
  · exact .inr (List.mem_of_mem_drop h)
theorem insA_perm {α : Type} (l : List α) (i : Nat) (x : α) : (insAt l i x).Perm (x :: l) := by
  unfold insAt
  rw [List.append_assoc]
  refine List.perm_middle.trans ?_
  show (x :: (l.take i ++ l.drop i)).Perm _
  rw [List.take_append_drop]
theorem insA_len {α : Type} (l : List α) (i : Nat) (x : α) : (insAt l i x).length = l.length + 1 := by
  rw [(insA_perm l i x).length_eq]; simp
def Apt (vs : List Value) : Prop := vs.Pairwise fun a b => ∀ g, a.ownBlock = some g → b.ownBlock ≠ some g
theorem TextsIs.apt {w : World} {B : Nat} {v : Value} {T : List Tx} {vs : List Value} (h : TextsIs w B v T vs) : Apt vs := List.pairwise_iff_getElem.2 fun i j hi hj hij g hg => h.apart i j hi hj hij g hg
theorem TextsIs.pair {w : World} {B : Nat} {v : Value} {T : List Tx} {vs : List Value} (h : TextsIs w B v T vs) {p : Pr} (hp : p ∈ T.zip vs) : w.ownsRow B 9 1 p.2 p.1.2.length (strV p.1.2) := by
  obtain ⟨i, hi, rfl⟩ := List.mem_iff_getElem.1 hp
  have hi' : i < T.length ∧ i < vs.length := by simpa [Nat.lt_min] using hi
  have := h.each i hi'.1 hi'.2
  simpa using this
theorem texts_mk {w : World} {B : Nat} {v : Value} {T : List Tx} {vs : List Value} (hl : vs.length = T.length) (hrow : w.ownsRow B 50 2 v T.length (tx2 ((T.map Prod.fst).zip vs))) (hp : ∀ p ∈ T.zip vs, w.ownsRow B 9 1 p.2 p.1.2.length (strV p.1.2)) (ha : Apt vs) : TextsIs w B v T vs := by
  refine ⟨hl, hrow, fun i h1 h2 => ?_, fun i j hi hj hij g hg => List.pairwise_iff_getElem.1 ha i j hi hj hij g hg⟩
  have := hp ((T.zip vs)[i]'(by simp; omega)) (List.getElem_mem _)
  simpa using this
/-- The row without one text is the row of the others. -/
theorem texts_cut {w w' : World} {B i : Nat} {v v' : Value} {T : List Tx} {vs : List Value} (h : TextsIs w B v T vs) (hi : i < T.length) (hrow : w'.ownsRow B 50 2 v' (T.length - 1) ((tx2 ((T.map Prod.fst).zip vs)).take (i * 2) ++ (tx2 ((T.map Prod.fst).zip vs)).drop ((i + 1) * 2))) (hk : ∀ {m : Nat} {u : Value} {xs : List Value}, w.ownsRow B 9 1 u m xs → w'.ownsRow B 9 1 u m xs) : TextsIs w' B v' (cutAt T i) (cutAt vs i) := by
  have hv : i < vs.length := by rw [h.len]; exact hi
  refine texts_mk (by rw [cut_len _ _ hv, cut_len _ _ hi, h.len]) ?_ (fun p hp => ?_) (h.apt.sublist (cut_sub vs i))
  · rw [cut_len _ _ hi, cut_map, cut_zip _ _ _ (by simp [h.len])]
    rw [tx2_take, tx2_drop, ← tx2_append] at hrow
    exact hrow
  · rw [cut_zip _ _ _ h.len.symm] at hp
    exact hk (h.pair (mem_cut hp))
theorem texts_ins {w w' : World} {B i : Nat} {v v' u : Value} {t : Tx} {T : List Tx} {vs : List Value} (h : TextsIs w B v T vs) (hrow : w'.ownsRow B 50 2 v' (T.length + 1) ((tx2 ((T.map Prod.fst).zip vs)).take (i * 2) ++ [.int .i64 (t.1 : Int), u] ++ (tx2 ((T.map Prod.fst).zip vs)).drop (i * 2))) (hk : ∀ {m : Nat} {u : Value} {xs : List Value}, w.ownsRow B 9 1 u m xs → w'.ownsRow B 9 1 u m xs)
    (hu : w.ownsRow B 9 1 u t.2.length (strV t.2)) (hua : ∀ x ∈ vs, ∀ g, u.ownBlock = some g → x.ownBlock ≠ some g) : TextsIs w' B v' (insAt T i t) (insAt vs i u) := by
  refine texts_mk (by rw [insA_len, insA_len, h.len]) ?_ (fun p hp => ?_) ?_
  · rw [insA_len, insA_map, insA_zip _ _ _ _ _ (by simp [h.len])]
    have e : tx2 (insAt ((T.map Prod.fst).zip vs) i (t.1, u)) = (tx2 ((T.map Prod.fst).zip vs)).take (i * 2) ++ [.int .i64 (t.1 : Int), u] ++ (tx2 ((T.map Prod.fst).zip vs)).drop (i * 2) := by
      unfold insAt
      rw [tx2_append, tx2_append, tx2_take, tx2_drop]; rfl
    rw [e]
    exact hrow
  · rw [insA_zip _ _ _ _ _ h.len.symm] at hp
    rcases mem_insA hp with rfl | hp
    · exact hk hu
    · exact hk (h.pair hp)
  · have hp := insA_perm vs i u
    refine (hp.pairwise_iff (R := fun a b => ∀ g, a.ownBlock = some g → b.ownBlock ≠ some g) (fun {a b} hab g hb ha => hab g ha hb)).2 ?_
    exact List.pairwise_cons.2 ⟨fun x hx g hg => hua x hx g hg, h.apt⟩
/-- One more doc of a part is dead. -/
def PPt.more (t : PPt) (d : Nat) : PPt := { t with dead := t.dead ||| 2 ^ d }
def killAt (Ps : List PPt) (p d : Nat) : List PPt := Ps.map fun t => if t.p = p then t.more d else t
theorem homes_mem {t : PPt} {x : Nat × (Nat × Nat)} (h : x ∈ t.homes) : x.2.1 = t.p ∧ x.2.2 < t.T.length ∧ t.dead.testBit x.2.2 = false ∧ x.1 = (t.T.getD x.2.2 (0, [])).1 := by
  unfold PPt.homes at h
  obtain ⟨d, hd, rfl⟩ := List.mem_map.1 h
  obtain ⟨h1, h2⟩ := List.mem_filter.1 hd
  exact ⟨rfl, List.mem_range.1 h1, by simpa using h2, rfl⟩
theorem mem_homes {t : PPt} {d : Nat} (h1 : d < t.T.length) (h2 : t.dead.testBit d = false) : ((t.T.getD d (0, [])).1, (t.p, d)) ∈ t.homes := by
  unfold PPt.homes
  exact List.mem_map.2 ⟨d, List.mem_filter.2 ⟨List.mem_range.2 h1, by simpa using h2⟩, rfl⟩
theorem mem_homL {Ps : List PPt} {x : Nat × (Nat × Nat)} : x ∈ homL Ps ↔ ∃ t ∈ Ps, x ∈ t.homes := by
  unfold homL
  exact List.mem_flatMap
theorem bit_or (a d i : Nat) : (a ||| 2 ^ d).testBit i = (a.testBit i || decide (d = i)) := by
  rw [Nat.testBit_or, Nat.testBit_two_pow]
theorem homes_more (t : PPt) (d : Nat) : (t.more d).homes = t.homes.filter fun x => !decide (x.2.2 = d) := by
  unfold PPt.homes PPt.more
  simp only
  rw [List.filter_map, List.filter_filter]
  congr 1
  apply List.filter_congr
  intro i _
  simp only [Function.comp, bit_or]
  by_cases h : i = d
  · subst h; simp
  · have : ¬ d = i := fun e => h e.symm
    simp [h, this]
theorem kill_homL (Ps : List PPt) (p d : Nat) : homL (killAt Ps p d) = (homL Ps).filter fun x => !decide (x.2 = (p, d)) := by
  unfold homL killAt
  induction Ps with
  | nil => rfl
  | cons t r ih =>
    simp only [List.map_cons, List.flatMap_cons, List.filter_append, ih]
    congr 1
    by_cases h : t.p = p
    · rw [if_pos h, homes_more]
      apply List.filter_congr
      intro x hx
      have := (homes_mem hx).1
      have e : (x.2 = (p, d)) ↔ x.2.2 = d := by
        constructor
        · intro e; rw [e]
        · intro e; exact Prod.ext (by rw [this, h]) e
      simp only [e]
    · rw [if_neg h]
      symm
      rw [List.filter_eq_self]
      intro x hx
      have := (homes_mem hx).1
      have : x.2 ≠ (p, d) := fun e => h (by rw [← this, e])
      simpa using this
theorem nodup_fst {l : List (Nat × (Nat × Nat))} (h : (l.map Prod.fst).Nodup) {x y : Nat × (Nat × Nat)} (hx : x ∈ l) (hy : y ∈ l) (e : x.1 = y.1) : x = y := by
  obtain ⟨i, hi, rfl⟩ := List.mem_iff_getElem.1 hx
  obtain ⟨j, hj, rfl⟩ := List.mem_iff_getElem.1 hy
  have hpw := List.pairwise_iff_getElem.1 h
  rcases Nat.lt_trichotomy i j with h3 | h3 | h3
  · exact absurd (by rw [List.getElem_map, List.getElem_map]; exact e) (hpw i j (by simpa using hi) (by simpa using hj) h3)
  · subst h3; rfl
  · exact absurd (by rw [List.getElem_map, List.getElem_map]; exact e.symm) (hpw j i (by simpa using hj) (by simpa using hi) h3)
theorem apart_eq {Ps : List PPt} (ha : Ps.Pairwise fun t u => t.p ≠ u.p) {t u : PPt} (ht : t ∈ Ps) (hu : u ∈ Ps) (e : t.p = u.p) : t = u := by
  obtain ⟨i, hi, rfl⟩ := List.mem_iff_getElem.1 ht
  obtain ⟨j, hj, rfl⟩ := List.mem_iff_getElem.1 hu
  have hpw := List.pairwise_iff_getElem.1 ha
  rcases Nat.lt_trichotomy i j with h3 | h3 | h3
  · exact absurd e (hpw i j hi hj h3)
  · subst h3; rfl
  · exact absurd e.symm (hpw j i hj hi h3)
/-- A text goes from its part: the homes are those of the other ids. -/
theorem kill_ids {Ps : List PPt} (hnd : ((homL Ps).map Prod.fst).Nodup) (ha : Ps.Pairwise fun t u => t.p ≠ u.p) {id p d : Nat} (hx : (id, (p, d)) ∈ homL Ps) : homL (killAt Ps p d) = (homL Ps).filter fun x => !decide (x.1 = id) := by
  rw [kill_homL]
  apply List.filter_congr
  intro y hy
  have e : (y.2 = (p, d)) ↔ y.1 = id := by
    constructor
    · intro e
      obtain ⟨t, ht, h1⟩ := mem_homL.1 hx
      obtain ⟨u, hu, h2⟩ := mem_homL.1 hy
      have a1 := homes_mem h1
      have a2 := homes_mem h2
      have : t = u := apart_eq ha ht hu (by rw [← a1.1, ← a2.1, e])
      subst this
      rw [a2.2.2.2, e]
      exact a1.2.2.2.symm
    · intro e
      have := nodup_fst hnd hy hx e
      rw [this]
  simp only [e]
theorem kill_homF {Ps : List PPt} (hnd : ((homL Ps).map Prod.fst).Nodup) (ha : Ps.Pairwise fun t u => t.p ≠ u.p) {id p d : Nat} (hx : (id, (p, d)) ∈ homL Ps) : homF (killAt Ps p d) = setAt (homF Ps) id none := by
  funext j
  have hk := kill_ids hnd ha hx
  have hnd2 : ((homL (killAt Ps p d)).map Prod.fst).Nodup := by
    rw [hk]
    exact (List.filter_sublist.map _).nodup hnd
  unfold setAt
  cases h1 : homF (killAt Ps p d) j with
  | none =>
    by_cases hj : j = id
    · rw [if_pos hj]
    · rw [if_neg hj]
      cases h2 : homF Ps j with
      | none => rfl
      | some x =>
        have h3 := (homF_some hnd j x).1 h2
        have h4 : (j, x) ∈ homL (killAt Ps p d) := by rw [hk]; exact List.mem_filter.2 ⟨h3, by simpa using hj⟩
        rw [(homF_some hnd2 j x).2 h4] at h1
        cases h1
  | some x =>
    have h3 := (homF_some hnd2 j x).1 h1
    rw [hk] at h3
    obtain ⟨h4, h5⟩ := List.mem_filter.1 h3
    have hj : j ≠ id := by simpa using h5
    rw [if_neg hj, (homF_some hnd j x).2 h4]
theorem filter_count {l : List (Nat × (Nat × Nat))} (h : (l.map Prod.fst).Nodup) {id : Nat} (hi : id ∈ l.map Prod.fst) : (l.filter fun x => !decide (x.1 = id)).length = l.length - 1 := by
  induction l with
  | nil => simp at hi
  | cons x r ih =>
    simp only [List.map_cons, List.nodup_cons] at h
    rw [List.filter_cons]
    by_cases hx : x.1 = id
    · rw [if_neg (by simpa using hx)]
      have : r.filter (fun x => !decide (x.1 = id)) = r := by
        rw [List.filter_eq_self]
        intro y hy
        have : y.1 ≠ id := fun e => h.1 (by rw [hx, ← e]; exact List.mem_map.2 ⟨y, hy, rfl⟩)
        simpa using this
      rw [this]; simp
    · rw [if_pos (by simpa using hx)]
      have hi' : id ∈ r.map Prod.fst := by
        simp only [List.map_cons, List.mem_cons] at hi
        rcases hi with hi | hi
        · exact absurd hi.symm hx
        · exact hi
      have h1 := ih h.2 hi'
      have h2 : 0 < r.length := by
        obtain ⟨y, hy, _⟩ := List.mem_map.1 hi'
        exact List.length_pos_of_mem hy
      rw [List.length_cons, h1]
      simp; omega
theorem rise_eq {T : List Tx} (h : Fine T) {i j : Nat} (hi : i < T.length) (hj : j < T.length) (e : T[i].1 = T[j].1) : i = j := by
  have hpw := List.pairwise_iff_getElem.1 (rs_nodup _ _ h.rise)
  rcases Nat.lt_trichotomy i j with h3 | h3 | h3
  · exact absurd (by rw [List.getElem_map, List.getElem_map]; exact e) (hpw i j (by simpa using hi) (by simpa using hj) h3)
  · exact h3
  · exact absurd (by rw [List.getElem_map, List.getElem_map]; exact e.symm) (hpw j i (by simpa using hj) (by simpa using hi) h3)
theorem flags_mark (t : PPt) (id : Nat) (f : Nat → Bool) (h : ∀ (i : Nat) (hi : i < t.T.length), f i = (t.dead.testBit i || decide (t.T[i].1 = id))) : (List.range t.T.length).map f = markF id t.T t.flags := by
  apply List.ext_getElem
  · simp [markF, PPt.flags]
  · intro i h1 h2
    have hi : i < t.T.length := by simpa using h1
    simp only [List.getElem_map, List.getElem_range, markF, PPt.flags, List.getElem_mapIdx]
    rw [h i hi]
    simp [hi]
/-- A text goes: the marks. -/
theorem kill_abs {Ps : List PPt} (hnd : ((homL Ps).map Prod.fst).Nodup) (ha : Ps.Pairwise fun t u => t.p ≠ u.p) (hf : ∀ t ∈ Ps, Fine t.T) {id p d : Nat} (hx : (id, (p, d)) ∈ homL Ps) : (killAt Ps p d).map PPt.abs = (Ps.map PPt.abs).map (DSg.mark id) := by
  unfold killAt
  rw [List.map_map, List.map_map]
  apply List.map_congr_left
  intro t ht
  simp only [Function.comp]
  obtain ⟨u, hu, h1⟩ := mem_homL.1 hx
  have a1 := homes_mem h1
  simp only at a1
  unfold DSg.mark PPt.abs
  by_cases h : t.p = p
  · rw [if_pos h]
    have e : u = t := apart_eq ha hu ht (by rw [h, ← a1.1])
    subst e
    simp only [PPt.more]
    congr 1
    refine flags_mark u id _ fun i hi => ?_
    rw [bit_or]
    have hd := a1.2.2.2
    rw [fst_getD u.T d a1.2.1] at hd
    have : (d = i) ↔ u.T[i].1 = id := by
      constructor
      · rintro rfl; exact hd.symm
      · intro e; exact rise_eq (hf u hu) a1.2.1 hi (by rw [e, ← hd])
    simp only [this]
  · rw [if_neg h]
    simp only
    congr 1
    refine flags_mark t id _ fun i hi => ?_
    by_cases e : t.T[i].1 = id
    · have hdead : t.dead.testBit i = true := by
        apply Decidable.byContradiction
        intro hno
        have hm : ((t.T.getD i (0, [])).1, (t.p, i)) ∈ homL Ps := mem_homL.2 ⟨t, ht, mem_homes hi (by simpa using hno)⟩
        rw [fst_getD t.T i hi, e] at hm
        have := nodup_fst hnd hm hx rfl
        simp at this
        exact h this.1
      simp [hdead]
    · simp [e]
theorem none_abs {Ps : List PPt} {id : Nat} (hx : id ∉ (homL Ps).map Prod.fst) : Ps.map PPt.abs = (Ps.map PPt.abs).map (DSg.mark id) := by
  rw [List.map_map]
  apply List.map_congr_left
  intro t ht
  simp only [Function.comp]
  unfold DSg.mark PPt.abs
  simp only
  congr 1
  refine flags_mark t id _ fun i hi => ?_
  by_cases e : t.T[i].1 = id
  · have hdead : t.dead.testBit i = true := by
      apply Decidable.byContradiction
      intro hno
      have hm : ((t.T.getD i (0, [])).1, (t.p, i)) ∈ homL Ps := mem_homL.2 ⟨t, ht, mem_homes hi (by simpa using hno)⟩
      rw [fst_getD t.T i hi, e] at hm
      exact hx (List.mem_map.2 ⟨_, hm, rfl⟩)
    simp [hdead]
  · simp [e]
set_option maxHeartbeats 1000000 in
theorem alive_any (p q num nd nt ns nb dead : Nat) (w : World) (h0 : w.cell? ⟨p, 0, none⟩ = some (.pointer (some ⟨q, 0, none⟩))) (h1 : w.cell? ⟨p, 1, none⟩ = some (.int .u64 (dead : Int))) (h : SegC w q num nd nt ns nb) (hn : nd ≤ 60) (hd : dead < 18446744073709551616) :
    Calls Tryz.prog 116 #[.pointer (some ⟨p, 0, none⟩)] w fun e w' => e = .returned (.int .u64 (aliveN nd dead : Nat)) ∧ Kp [] w w' := by
  have hall := fun (W : World) (hW : SegC W q num nd nt ns nb) => segAll_any q num nd nt ns nb W hW hn
  have hp : 2 ^ nd - 1 < 18446744073709551616 := by
    have : 2 ^ nd ≤ 2 ^ 60 := Nat.pow_le_pow_right (by omega) hn
    omega
  have hbit := u64_andNot_nat (2 ^ nd - 1) dead hp hd
  have HH := hide h
  obtain ⟨x, hx⟩ : ∃ x, 2 ^ nd - 1 = x := ⟨_, rfl⟩
  unfold aliveN
  rw [hx] at hbit ⊢
  have HX := hide hx
  clear h hx hp
  have hcall := hall w.drew (HH.out.kp (S := []) ⟨rfl, rfl, rfl, Nat.le_refl _, fun _ _ _ => rfl⟩ (by simp))
  rw [HX.out] at hcall
  clear hall
  go_enter Tryz.func116, Tryz.ntmps116
  go_wp2_with fail
  go_region_with (go_at_call 154; refine hcall.mono ?_; rintro r w5 ⟨rfl, rfl⟩)
  all_goals
    go_wp2_with fail
    go_ret
    exact ⟨rfl, ⟨rfl, rfl, rfl, Nat.le_refl _, fun _ _ _ => rfl⟩⟩
set_option maxHeartbeats 1000000 in
theorem segId_any (q d n ci gi B : Nat) (T : List Tx) (w : World) (h1 : w.cell? ⟨q, 1, none⟩ = some (.slice (some ⟨gi, 0, none⟩) n ci)) (hr : w.ownsRow B 3 1 (.slice (some ⟨gi, 0, none⟩) n ci) n (intV (T.map Prod.fst))) (hd : d < T.length) (hn : T.length = n) :
    Calls Tryz.prog 122 #[.pointer (some ⟨q, 0, none⟩), .int .i64 (d : Int)] w fun e w' => e = .returned (.int .i64 (T[d].1 : Int)) ∧ w' = w := by
  have hc := hr.cells (g := gi) rfl d (.int .i64 (T[d].1 : Int)) (by simp [intV, hd])
  rw [Addr.add_lit, Nat.zero_add] at hc
  have l1 : (0 : Int) ≤ (d : Int) := by omega
  have l2 : (d : Int) < (n : Int) := by omega
  clear hr
  go_enter Tryz.func122, Tryz.ntmps122
  go_wp2_with fail
  go_ret
  exact ⟨rfl, rfl⟩
/-- A region that draws, in a round of a range over a function, is walked as anywhere. -/
theorem rows_round {P : Program} {n l : Nat} {row : String} {args : Array Value} {w : World} {R : Value → World → Prop} (h : Rows P row args w R) : RowsIn (Fence.wide.inRound l) n P row args w R := by
  intro c cs _
  obtain ⟨v, w', hr, hs⟩ := h c cs
  exact ⟨v, w', hr, (StepsIn.of_steps hs).mono fun m _ => fenced_wide P m⟩
theorem op_round {P : Program} {n l : Nat} {Q : Exit → Act → World → Prop} {o : Oper} {a : Act} {w : World} {K K' : Act → World → Prop} (hk : ∀ a w, K a w → K' a w) (hd : ∀ c, o.op ≠ .defer c) (h : o.wp P a w K Q) : o.wpIn (Fence.wide.inRound l) n P a w K' Q := by
  refine ⟨fun f _ => trivial, ?_⟩
  rw [Oper.semAt_eq _ _ _ hd]
  unfold Oper.wp at h
  generalize (execOp a.eval o).run P w = r at h ⊢
  cases r with
  | ok x w' =>
    cases x with
    | value v => exact hk _ _ h
    | skip => exact hk _ _ h
    | defer d => exact hk _ _ h
    | enter f args =>
      refine ⟨fun e => by simp [Fence.inRound, Fence.wide] at e, ?_⟩
      exact CallsIn.inRound l ((callsIn_wide.2 h).mono (fun e w'' he => by cases e <;> first | exact hk _ _ he | exact he))
    | row row args =>
      refine ⟨fun e => by simp [Fence.inRound, Fence.wide] at e, ?_⟩
      exact (rows_round h).mono (fun _ _ he => hk _ _ he)
    | _ => exact (h : False).elim
  | halt x w' =>
    cases x <;> exact h
theorem any_round {P : Program} {n l : Nat} {md : Region.Mode} {ops : Array Oper} {Q : Exit → Act → World → Prop} (hL : ¬ LetsOut Q) (hd : ∀ (i : Nat) (o : Oper) c, ops[i]? = some o → o.op ≠ .defer c) :
    ∀ (fuel : Nat) (listed : Array Bool) (a : Act) (w : World), wpAny P md ops Q fuel listed a w → wpAnyIn (Fence.wide.inRound l) n P md ops Q fuel listed a w
  | 0, listed, a, w, h => h
  | fuel + 1, listed, a, w, h => by
    refine ⟨h.1, fun i hi => ?_⟩
    have h1 := h.2 i hi
    unfold wpOp at h1
    unfold wpOpIn
    cases ho : ops[i]? with
    | none =>
      simp only [ho] at h1
      exact any_round hL hd fuel _ _ _ h1
    | some o =>
      simp only [ho] at h1 ⊢
      by_cases hw : Region.wanted o (yielded ops a.tmps) = true
      · simp only [hw, if_true] at h1 ⊢
        rcases h1 with h1 | h1
        · exact op_round (fun a w hh => any_round hL hd fuel _ a w hh) (fun c => hd i o c ho) h1
        · exact absurd h1.2 hL
      · simp only [hw] at h1 ⊢
        exact ⟨fun f _ => trivial, any_round hL hd fuel _ _ _ h1⟩
def isDef : Op → Bool
  | .defer _ => true
  | _ => false
theorem noDefer {ops : Array Oper} (h : ops.toList.all (fun o => !isDef o.op) = true) : ∀ (i : Nat) (o : Oper) c, ops[i]? = some o → o.op ≠ .defer c := by
  intro i o c hi e
  have h1 : o ∈ ops.toList := by
    rw [← Array.getElem?_toList] at hi
    exact List.mem_of_getElem? hi
  have := List.all_eq_true.1 h o h1
  rw [e] at this
  simp [isDef] at this
theorem region_round {P : Program} {n l id : Nat} {ops : Array Oper} {Q : Exit → Act → World → Prop} {S : World → Prop} {a : Act} {w : World} (hm : P.follows .mixedOrders = true) (hL : ¬ LetsOut Q) (hd : ∀ (i : Nat) (o : Oper) c, ops[i]? = some o → o.op ≠ .defer c)
    (h : ∀ w1 : World, Kp [] w w1 → w1.heap = w.heap → wpAnyH P .any ops Q S ops.size (Array.replicate ops.size false) a w1) : (Code.region id ops true).wpIn (Fence.wide.inRound l) n P Q a w :=
  wpIn_region_any hm (any_round hL hd _ _ _ _ (wpAny_of_held _ _ _ _ (h _ ((Kp.refl _ _).drewN 1) rfl)))
end Go.Proofs.YtnffagpdnklnkaaGreatDoor.Pak
