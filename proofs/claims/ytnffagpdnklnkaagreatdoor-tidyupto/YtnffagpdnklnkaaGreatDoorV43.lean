import Derived.Test.YtnffagpdnklnkaaGreatDoorV42
import Derived.BigQuiet
set_option linter.unusedVariables false
set_option linter.unusedSimpArgs false
set_option maxRecDepth 8000
namespace Go.Proofs.YtnffagpdnklnkaaGreatDoor.Pak
open Go.RowKit Go.Proofs.YtnffagpdnklnkaaGreatDoor Go.Proofs.YtnffagpdnklnkaaGreatDoor.Spl SiftM
/- How many states. -/
theorem end_cons (t p : List UInt8) (r : List (List UInt8)) : St.endings (t :: r) p = (if p.isPrefixOf t then t.drop p.length ++ [124] else []) ++ St.endings r p := by
  unfold St.endings
  by_cases h : p.isPrefixOf t = true
  · simp [h]
  · have h' : p.isPrefixOf t = false := Bool.eq_false_iff.2 h
    rw [List.filter_cons_of_neg (by simp [h'])]
    simp [h']
theorem end_le (p : List UInt8) : ∀ L : List (List UInt8), (St.endings L p).length ≤ (St.endings L []).length
  | [] => by simp [St.endings]
  | t :: r => by
    have ih := end_le p r
    rw [end_cons, end_cons, List.length_append, List.length_append]
    simp only [List.isPrefixOf, if_true, List.length_append, List.length_drop, List.length_nil, Nat.sub_zero]
    by_cases h : p.isPrefixOf t = true
    · rw [if_pos h]; simp; omega
    · rw [if_neg h]; simp; omega
theorem end_lt (p : List UInt8) (hp : p ≠ []) : ∀ L : List (List UInt8), p ∈ L → (St.endings L p).length < (St.endings L []).length
  | [], h => by cases h
  | t :: r, h => by
    have hpl : 0 < p.length := List.length_pos_iff.2 hp
    have ih := end_le p r
    rw [end_cons, end_cons, List.length_append, List.length_append]
    simp only [List.isPrefixOf, if_true, List.length_append, List.length_drop, List.length_nil, Nat.sub_zero]
    rcases List.mem_cons.1 h with rfl | h
    · rw [if_pos (by simp)]
      simp
      omega
    · have ih2 := end_lt p hp r h
      by_cases h' : p.isPrefixOf t = true
      · rw [if_pos h']; simp; omega
      · rw [if_neg h']; simp; omega
theorem states_two (L : List (List UInt8)) (t : List UInt8) (h : t ∈ L) (hne : t ≠ []) : 2 ≤ (St.refSets L).length := by
  have h1 : St.endings L [] ∈ St.refSets L := by
    unfold St.refSets
    rw [St.mem_mores]
    exact .inr (List.mem_flatMap.2 ⟨t, h, List.mem_map.2 ⟨0, by simp, by simp⟩⟩)
  have h2 : St.endings L t ∈ St.refSets L := by
    unfold St.refSets
    rw [St.mem_mores]
    exact .inr (List.mem_flatMap.2 ⟨t, h, List.mem_map.2 ⟨t.length, by simp, by simp⟩⟩)
  have hlt := end_lt t hne L h
  have := nd_sub [St.endings L [], St.endings L t] (St.refSets L) (by
    refine List.nodup_cons.2 ⟨fun hx => ?_, by simp⟩
    have := congrArg List.length (List.mem_singleton.1 hx)
    omega) (fun x hx => by
    simp at hx
    rcases hx with rfl | rfl
    · exact h1
    · exact h2)
  simpa using this
theorem word_ne {x : List UInt8} (h : isWord x = true) : x ≠ [] := fun e => by
  subst e
  exact absurd h (by decide)
theorem states_fine {T : List Tx} (hf : Fine T) (h : 0 < (termsOf T).length) : 2 ≤ (St.refSets (termsOf T)).length := by
  obtain ⟨x, hx⟩ := List.exists_mem_of_length_pos h
  obtain ⟨t, ht, hxt⟩ := (allW_iff T x).1 ((terms_mem T x).1 hx)
  exact states_two _ x hx (word_ne (hf.word t ht x hxt))
/- How many different words. -/
theorem nd_eqlen {α : Type} [DecidableEq α] {l m : List α} (h1 : l.Nodup) (h2 : m.Nodup) (h : ∀ x, x ∈ l ↔ x ∈ m) : l.length = m.length :=
  Nat.le_antisymm (nd_sub l m h1 fun x hx => (h x).1 hx) (nd_sub m l h2 fun x hx => (h x).2 hx)
theorem terms_nd (T : List Tx) : (termsOf T).Nodup := (terms_pw T).imp fun h e => by
  subst e
  exact List.lt_irrefl _ h
theorem dif_len (T : List Tx) : (St.mores [] (allW T)).length = (termsOf T).length :=
  nd_eqlen (St.mores_nodup List.nodup_nil) (terms_nd T) fun x => by rw [St.mem_mores, terms_mem]; simp
/- The names of the files behind a commit. -/
theorem names_is {F : List Fl} {k nx : Nat} {Ps : List PPt} (hA : absF F = dskOf k nx Ps) (x : List UInt8) : x ∈ nms F ↔ x ∈ comN k :: Ps.map fun t => segN t.num := by
  rw [← absF_is, hA]
  unfold dskOf
  by_cases e : x = comN k
  · simp [e]
  · rw [if_neg e]
    constructor
    · intro h
      cases hf : Ps.find? (fun u => decide (segN u.num = x)) with
      | none => rw [hf] at h; cases h
      | some u =>
        have h1 := List.find?_some hf
        have h2 := List.mem_of_find?_eq_some hf
        simp only [decide_eq_true_eq] at h1
        exact List.mem_cons_of_mem _ (List.mem_map.2 ⟨u, h2, h1⟩)
    · intro h
      rcases List.mem_cons.1 h with h | h
      · exact absurd h e
      · obtain ⟨u, hu, rfl⟩ := List.mem_map.1 h
        rw [Option.isSome_map, List.find?_isSome]
        exact ⟨u, hu, by simp⟩
theorem names_nd {Ps : List PPt} (k : Nat) (h : (Ps.map PPt.num).Nodup) : (comN k :: Ps.map fun t => segN t.num).Nodup := by
  refine List.nodup_cons.2 ⟨fun hx => ?_, ?_⟩
  · obtain ⟨u, hu, e⟩ := List.mem_map.1 hx
    exact seg_com _ _ e
  · have : (Ps.map fun t => segN t.num) = (Ps.map PPt.num).map segN := by simp
    rw [this]
    refine List.pairwise_map.2 (h.imp fun hne e => hne (segN_inj e))
theorem files_len {F : List Fl} {k nx : Nat} {Ps : List PPt} (hnd : (nms F).Nodup) (hA : absF F = dskOf k nx Ps) (h : (Ps.map PPt.num).Nodup) : F.length = Ps.length + 1 := by
  have := nd_eqlen hnd (names_nd k h) (names_is hA)
  simpa [nms] using this
theorem sortN_pw {l : List (List UInt8)} (h : l.Nodup) : (sortN l).Pairwise (· < ·) := by
  have h1 : (sortN l).Pairwise (· ≤ ·) := sort_le l
  have h2 : (sortN l).Nodup := (List.mergeSort_perm l _).nodup_iff.2 h
  refine (h1.and h2).imp fun ⟨a, b⟩ => ?_
  exact lt_of _ _ a b
theorem names_first {F : List Fl} {nx : Nat} {Ps : List PPt} (hnd : (nms F).Nodup) (hA : absF F = dskOf 2 nx Ps) : (sortN (nms F)).getD 0 [] = [99, 50] := by
  have hc : comN 2 = [99, 50] := by kernel_rfl
  have hin : [99, 50] ∈ sortN (nms F) := (List.mergeSort_perm _ _).mem_iff.2 ((names_is hA _).2 (by rw [hc]; simp))
  have hpw := sortN_pw hnd
  cases hs : sortN (nms F) with
  | nil => rw [hs] at hin; cases hin
  | cons a r =>
    rw [hs] at hin hpw
    rcases List.mem_cons.1 hin with e | e
    · simp [e]
    · have hlt := List.rel_of_pairwise_cons hpw e
      have ha : a ∈ nms F := (List.mergeSort_perm _ _).mem_iff.1 (show a ∈ sortN (nms F) by rw [hs]; simp)
      have ha := (names_is hA a).1 ha
      rw [hc] at ha
      rcases List.mem_cons.1 ha with e2 | e2
      · simp [e2]
      · obtain ⟨u, hu, rfl⟩ := List.mem_map.1 e2
        unfold segN at hlt
        exact absurd hlt (by
          intro h
          rcases List.cons_lt_cons_iff.1 h with h | h
          · exact absurd h (by decide)
          · exact absurd h.1 (by decide))
/- Texts that were found. -/
def fnd : List UInt8 := [40, 102, 111, 117, 110, 100, 41]
def mkd (th : List Bool) (wl : List (List (List UInt8))) (D : List Tx) (i : Nat) : Bool := th.getD i false && decide ((i, wl.getD i []) ∈ D)
def mwl (th : List Bool) (wl : List (List (List UInt8))) (D : List Tx) : List (List (List UInt8)) := (List.range 20).map fun i => if mkd th wl D i then fnd :: wl.getD i [] else wl.getD i []
def fN (th : List Bool) (wl : List (List (List UInt8))) (D : List Tx) : Nat := ((List.range 20).filter (mkd th wl D)).length
theorem mwl_len (th : List Bool) (wl : List (List (List UInt8))) (D : List Tx) : (mwl th wl D).length = 20 := by simp [mwl]
theorem mwl_get (th : List Bool) (wl : List (List (List UInt8))) (D : List Tx) (i : Nat) (h : i < 20) : (mwl th wl D).getD i [] = if mkd th wl D i then fnd :: wl.getD i [] else wl.getD i [] := by
  unfold mwl
  rw [List.getD_eq_getElem?_getD, List.getElem?_map, List.getElem?_range h]
  rfl
theorem mkd_nil (th : List Bool) (wl : List (List (List UInt8))) (i : Nat) : mkd th wl [] i = false := by simp [mkd]
theorem mwl_nil (th : List Bool) (wl : List (List (List UInt8))) (h : wl.length = 20) : mwl th wl [] = wl := by
  apply List.ext_getElem
  · rw [mwl_len, h]
  · intro i h1 h2
    simp [mwl, mkd_nil, List.getD_eq_getElem?_getD, h2]
theorem fN_nil (th : List Bool) (wl : List (List (List UInt8))) : fN th wl [] = 0 := by
  unfold fN
  rw [List.filter_eq_nil_iff.2 (fun i _ => by simp [mkd_nil])]
  rfl
theorem cnt_more (f g : Nat → Bool) (id : Nat) (hne : ∀ i, i ≠ id → g i = f i) (h0 : f id = false) (h1 : g id = true) : ∀ n, ((List.range n).filter g).length = ((List.range n).filter f).length + if id < n then 1 else 0
  | 0 => by simp
  | n + 1 => by
    have ih := cnt_more f g id hne h0 h1 n
    rw [List.range_succ, List.filter_append, List.filter_append, List.length_append, List.length_append, ih]
    by_cases e : n = id
    · subst e
      simp [h0, h1]
    · have := hne n e
      by_cases hl : id < n
      · rw [if_pos hl, if_pos (by omega)]
        simp only [List.filter_cons, List.filter_nil, this]
        cases f n <;> simp
      · rw [if_neg hl, if_neg (by omega)]
        simp only [List.filter_cons, List.filter_nil, this, Nat.add_zero]
theorem mkd_snoc (th : List Bool) (wl : List (List (List UInt8))) (D : List Tx) (id : Nat) (ws : List (List UInt8)) (i : Nat) : mkd th wl (D ++ [(id, ws)]) i = (mkd th wl D i || (th.getD i false && decide (i = id ∧ wl.getD i [] = ws))) := by
  unfold mkd
  cases th.getD i false
  · simp
  · simp only [Bool.true_and, List.mem_append, List.mem_singleton, Prod.mk.injEq, Bool.decide_or]
theorem mark_yes {th : List Bool} {wl : List (List (List UInt8))} {D : List Tx} {id : Nat} {ws : List (List UInt8)} (hid : id < 20) (hw : ∀ x ∈ ws, isWord x = true) (ht : th.getD id false = true) (he : ws = (mwl th wl D).getD id []) :
    mwl th wl (D ++ [(id, ws)]) = (mwl th wl D).set id (fnd :: ws) ∧ fN th wl (D ++ [(id, ws)]) = fN th wl D + 1 := by
  rw [mwl_get _ _ _ _ hid] at he
  have hm : mkd th wl D id = false := by
    cases hm : mkd th wl D id with
    | false => rfl
    | true =>
      rw [hm] at he
      have := hw fnd (by rw [he]; simp)
      exact absurd this (by decide)
  rw [hm] at he
  simp only [Bool.false_eq_true, if_false] at he
  have hne : ∀ i, i ≠ id → mkd th wl (D ++ [(id, ws)]) i = mkd th wl D i := fun i hi => by rw [mkd_snoc]; simp [hi]
  have hse : mkd th wl (D ++ [(id, ws)]) id = true := by rw [mkd_snoc, ht, ← he]; simp
  refine ⟨?_, ?_⟩
  · apply List.ext_getElem
    · rw [List.length_set, mwl_len, mwl_len]
    · intro i h1 h2
      by_cases e : i = id
      · subst e
        rw [List.getElem_set_self]
        simp only [mwl, List.getElem_map, List.getElem_range]
        rw [hse, ← he]; rfl
      · rw [List.getElem_set_ne (fun e2 => e e2.symm)]
        simp only [mwl, List.getElem_map, List.getElem_range]
        rw [hne i e]
  · have := cnt_more _ _ id hne hm hse 20
    rw [if_pos hid] at this
    exact this
theorem mark_no {th : List Bool} {wl : List (List (List UInt8))} {D : List Tx} {id : Nat} {ws : List (List UInt8)} (hid : id < 20) (h : ¬ (th.getD id false = true ∧ ws = (mwl th wl D).getD id [])) :
    mwl th wl (D ++ [(id, ws)]) = mwl th wl D ∧ fN th wl (D ++ [(id, ws)]) = fN th wl D := by
  have hall : ∀ i, mkd th wl (D ++ [(id, ws)]) i = mkd th wl D i := fun i => by
    rw [mkd_snoc]
    by_cases e : i = id
    · subst e
      cases ht : th.getD i false with
      | false => simp
      | true =>
        cases hm : mkd th wl D i with
        | true => simp
        | false =>
          rw [mwl_get _ _ _ _ hid, hm] at h
          have : ¬ wl.getD i [] = ws := fun e => h ⟨ht, by rw [e]; rfl⟩
          simp only [Bool.false_or, Bool.true_and, decide_eq_false_iff_not]
          exact fun ⟨_, h2⟩ => this h2
    · simp [e]
  have hf : mkd th wl (D ++ [(id, ws)]) = mkd th wl D := funext hall
  exact ⟨by unfold mwl; rw [hf], by unfold fN; rw [hf]⟩
/-- How many texts there are. -/
def cntT (th : List Bool) : Nat := ((List.range 20).filter fun i => th.getD i false).length
theorem all_found {th : List Bool} {wl : List (List (List UInt8))} {D : List Tx} (h : ∀ i, th.getD i false = true → (i, wl.getD i []) ∈ D) : fN th wl D = cntT th := by
  have : mkd th wl D = fun i => th.getD i false := funext fun i => by
    unfold mkd
    cases ht : th.getD i false with
    | false => rfl
    | true => rw [Bool.true_and]; exact decide_eq_true (h i ht)
  unfold fN cntT
  rw [this]
/- A file that was written is read. -/
theorem file_len (T : List Tx) : (fileT T).length = (bodyT T).length + 4 := by unfold fileT; rw [List.length_append, sumB_len]
theorem numG_pos : ∀ (f n : Nat), 1 ≤ (numG f n).length
  | 0, n => by simp [numG]
  | f + 1, n => by rw [numG]; split <;> simp
theorem body_len (T : List Tx) (hf : Fine T) : 3 ≤ (bodyT T).length ∧ (bodyT T).length ≤ 101100 := by
  have h1 := numG_pos 3 T.length
  have h2 := numG_pos 3 (termsOf T).length
  have h3 := numB_len T.length
  have h4 := numB_len (termsOf T).length
  have h5 := riseB_len (T.map Prod.fst) 0
  have h6 := postT_part T hf (termsOf T).length
  have h7 := hf.len
  rw [List.take_length] at h6
  rw [List.length_map] at h5
  rw [body_eq]
  simp only [List.length_cons, List.length_append]
  unfold numB at *
  omega
theorem read_file (T : List Tx) (hf : Fine T) (a : Option Addr) (cap : Nat) (w : World) (hv : Vw w w.heap.size a (fileT T)) (hc : (fileT T).length ≤ cap) (hc2 : cap ≤ 9223372036854775807) :
    Calls Tryz.prog 11 #[.slice a (fileT T).length cap] w fun e w' => ∃ v vs, e = .returned (.tuple #[v, .int .i64 0]) ∧ TextsIs w' w.heap.size v T vs ∧ Kp [] w w' := by
  have hl := file_len T
  have hb := body_len T hf
  have ht := allW_le T hf.few
  have hn := hf.len
  have htab : tableF (unsealF (fileT T)) = (T.map Prod.fst, termsOf T, sumW T, belowF (rowsOf T) (termsOf T).length, some []) := by
    unfold fileT; rw [unseal_file]; exact table_back T hf
  have hsw := sumW_le T hf.few
  have htb := texts_back T
  have hr := read_good a cap (fileT T) _ _ _ _ (rowsOf T) w hv (by omega) hc hc2 htab (below_rows (rowsOf T) (termsOf T).length (rows_small T hf.few) (rows_lt T)) (by rw [rows_len]; simp) (by simpa using hn) (by omega) (by omega) (by
    intro r hr
    unfold rowsOf at hr
    obtain ⟨t, htm, rfl⟩ := List.mem_map.1 hr
    rw [words_back T t htm]
    have h1 := hf.few t htm
    have h2 := (hf.short t htm).2
    omega) (by rw [htb]; exact may_sum T (fun t ht => (hf.short t ht).1))
  rw [htb] at hr
  exact hr
/-- count. -/
theorem cnt_snoc (th : List Bool) (k : Nat) : ((List.range (k + 1)).filter fun i => th.getD i false).length = ((List.range k).filter fun i => th.getD i false).length + if th.getD k false then 1 else 0 := by
  rw [List.range_succ, List.filter_append, List.length_append]
  simp only [List.filter_cons, List.filter_nil]
  cases th.getD k false <;> rfl
theorem cnt_leK (th : List Bool) (k : Nat) : ((List.range k).filter fun i => th.getD i false).length ≤ k := by
  have := List.length_filter_le (fun i => th.getD i false) (List.range k)
  simpa using this
set_option maxHeartbeats 1000000 in
theorem count_any (w : World) (B Wd X tb wb : Nat) (on : Bool) (th : List Bool) (vs : List Value) (wl : List (List (List UInt8))) (h : LW w B Wd X tb wb on th vs wl) :
    Calls Tryz.prog 14 #[.pointer (some ⟨Wd, 0, none⟩)] w fun e w' => e = .returned (.int .i64 (cntT th : Nat)) ∧ w' = w := by
  obtain ⟨c0, c1, c2, c3, _⟩ := h.cells
  have hth : Hid (∀ i, i < 20 → w.cell? ⟨tb, i, none⟩ = some (.bool (th.getD i false))) := fun i hi => by
    obtain ⟨b, hb, hc, _⟩ := h.thAt i hi
    rw [hc, List.getD_eq_getElem?_getD, hb]; rfl
  clear h
  go_enter Tryz.func14, Tryz.ntmps14
  go_wp2_with fail
  go_loopw [3, 4] (fun nv iv wr => ∃ k m : Nat, k ≤ 20 ∧ iv = .int .i64 (k : Int) ∧ nv = .int .i64 (m : Int) ∧ Hid (((List.range k).filter fun i => th.getD i false).length = m) ∧ wr = w) (fun _ iv _ => 20 - (intOf iv).toNat)
  case atStart => exact ⟨0, 0, by omega, rfl, rfl, rfl, rfl⟩
  case round =>
    obtain ⟨k, m, hk, rfl, rfl, hm, rfl⟩ := hrel
    have hmk : m ≤ k := by rw [← hm.out]; exact cnt_leK th k
    by_cases hlt : k < 20
    · have h0 := hth.out k hlt
      have hs := cnt_snoc th k
      rw [hm.out] at hs
      have h1 : (k : Int) < 20 := by omega
      have h2 : (0 : Int) ≤ (k : Int) := by omega
      cases hb : th.getD k false with
      | true =>
        rw [hb] at h0 hs
        have HS : Hid (((List.range (k + 1)).filter fun i => th.getD i false).length = m + 1) := hs
        clear hs hb
        go_wp2_with fail
        go_roundw
        case measure => simp [intOf]; omega
        case rel => exact ⟨k + 1, m + 1, by omega, by go_num, by go_num, HS, by first | rfl | trivial⟩
      | false =>
        rw [hb] at h0 hs
        have HS : Hid (((List.range (k + 1)).filter fun i => th.getD i false).length = m) := hs
        clear hs hb
        go_wp2_with fail
        go_roundw
        case measure => simp [intOf]; omega
        case rel => exact ⟨k + 1, m, by omega, by go_num, rfl, HS, by first | rfl | trivial⟩
    · have e : k = 20 := by omega
      subst e
      go_wp2_with fail
      go_ret
      exact ⟨ret_int (by rw [← hm.out]; rfl), rfl⟩
/-- sameStrings. -/
theorem same_far (a b : Option Addr) (n m ca cb : Nat) (w : World) (h : n ≠ m) :
    Calls Tryz.prog 13 #[.slice a n ca, .slice b m cb] w fun e w' => e = .returned (.bool false) ∧ w' = w := by
  have h1 : ¬ (n : Int) = (m : Int) := by omega
  go_enter Tryz.func13, Tryz.ntmps13
  go_wp2_with fail
  go_ret
  exact ⟨rfl, rfl⟩
theorem same_zero (a b : Option Addr) (ca cb : Nat) (w : World) :
    Calls Tryz.prog 13 #[.slice a 0 ca, .slice b 0 cb] w fun e w' => e = .returned (.bool true) ∧ w' = w := by
  go_enter Tryz.func13, Tryz.ntmps13
  go_wp2_with fail
  refine wp_loop_rounds 1 ?_
  rw [rounds_succ]
  go_wp2_with fail
  go_ret
  exact ⟨rfl, rfl⟩
set_option maxHeartbeats 400000 in
set_option maxRecDepth 100000 in
theorem same_two (ga gb n ca cb : Nat) (X Y : Nat → ByteArray) (r : Bool) (w : World) (hn : n ≤ 1000)
    (ha : ∀ j, j < n → w.cell? ⟨ga, j, none⟩ = some (.string (X j))) (hb : ∀ j, j < n → w.cell? ⟨gb, j, none⟩ = some (.string (Y j)))
    (hr1 : (∀ j, j < n → X j = Y j) → r = true) (hr2 : ∀ j, j < n → X j ≠ Y j → r = false) :
    Calls Tryz.prog 13 #[.slice (some ⟨ga, 0, none⟩) n ca, .slice (some ⟨gb, 0, none⟩) n cb] w fun e w' => e = .returned (.bool r) ∧ ∃ q, w' = w.drewN q := by
  have HR1 := hide hr1
  have HR2 := hide hr2
  have HA := hide ha
  have HB := hide hb
  clear hr1 hr2 ha hb
  go_enter Tryz.func13, Tryz.ntmps13
  go_wp2_with fail
  go_loopw [5] (fun i wr => ∃ k q : Nat, k ≤ n ∧ i = .int .i64 k ∧ Hid (∀ j, j < k → X j = Y j) ∧ wr = w.drewN q) (fun i _ => n - (intOf i).toNat)
  case atStart => exact ⟨0, 0, Nat.zero_le _, rfl, fun j hj => by omega, rfl⟩
  case round =>
    obtain ⟨k, q, hk, rfl, hE, rfl⟩ := hrel
    by_cases hlt : k < n
    · have h1 := HA.out k hlt
      have h2 := HB.out k hlt
      have h3 : (k : Int) < (n : Int) := by omega
      have h4 : (0 : Int) ≤ (k : Int) := by omega
      by_cases hx : X k = Y k
      · have hE2 : Hid (∀ j, j < k + 1 → X j = Y j) := fun j hj => by
          by_cases e : j = k
          · subst e; exact hx
          · exact hE.out j (by omega)
        rw [hx] at h1
        clear hx
        go_wp2_with fail
        go_quiet (fail)
        go_wp2_with fail
        exact ⟨⟨k + 1, q + nq, by omega, by go_num, hE2, rfl⟩, by simp [intOf]; omega⟩
      · have hr := HR2.out k hlt hx
        subst hr
        have hxb : ((X k).toList == (Y k).toList) = false := beq_eq_false_iff_ne.2 fun e => hx (by
          rw [Lib.toList_data, Lib.toList_data] at e
          have e2 : (X k).data = (Y k).data := Array.toList_inj.1 e
          cases hX : X k; cases hY : Y k
          rw [hX, hY] at e2
          exact congrArg ByteArray.mk e2)
        clear HR1 HR2
        go_wp2_with fail
        go_quiet (fail)
        go_wp2_with fail
        go_ret
        exact ⟨rfl, q + nq, World.drewN_drewN _ _ _⟩
    · have hkn : k = n := by omega
      subst hkn
      have hr := HR1.out hE.out
      subst hr
      have hltz : ¬ (k : Int) < (k : Int) := by omega
      go_wp2_with fail
      go_ret
      exact ⟨rfl, q, rfl⟩
theorem sameS_any (va vb : Value) (A B : Nat) (la lb : List (List UInt8)) (w : World) (hn : la.length ≤ 1000)
    (ha : w.ownsRow A 9 1 va la.length (strV la)) (hb : w.ownsRow B 9 1 vb lb.length (strV lb)) :
    Calls Tryz.prog 13 #[va, vb] w fun e w' => e = .returned (.bool (decide (la = lb))) ∧ ∃ q, w' = w.drewN q := by
  obtain ⟨a, ca, rfl, fa⟩ := owns_forms ha
  obtain ⟨b, cb, rfl, fb⟩ := owns_forms hb
  by_cases hlen : la.length = lb.length
  · by_cases h0 : la.length = 0
    · have e1 : la = [] := List.length_eq_zero_iff.1 h0
      have e2 : lb = [] := List.length_eq_zero_iff.1 (by omega)
      subst e1 e2
      refine (same_zero _ _ _ _ _).mono ?_
      rintro e w' ⟨rfl, rfl⟩
      exact ⟨rfl, 0, rfl⟩
    · obtain ⟨ga, rfl⟩ := fa (by omega)
      obtain ⟨gb, rfl⟩ := fb (by omega)
      have h1 := strs_cells ha rfl
      have h2 := strs_cells hb rfl
      rw [← hlen]
      refine same_two ga gb la.length ca cb (fun j => ⟨(la.getD j []).toArray⟩) (fun j => ⟨(lb.getD j []).toArray⟩) _ w hn (fun j hj => by
        rw [h1 j hj]; simp [List.getD_eq_getElem?_getD, hj]) (fun j hj => by
        rw [h2 j (by omega)]; simp [List.getD_eq_getElem?_getD, (show j < lb.length by omega)]) (fun hall => ?_) (fun j hj hne => ?_)
      · refine decide_eq_true (List.ext_getElem hlen fun j h3 h4 => ?_)
        have := hall j h3
        have h5 := congrArg (fun b : ByteArray => b.data.toList) this
        simpa [List.getD_eq_getElem?_getD, h3, h4] using h5
      · refine decide_eq_false fun e => hne ?_
        rw [e]
  · refine (same_far _ _ _ _ _ _ w hlen).mono ?_
    rintro e w' ⟨rfl, rfl⟩
    exact ⟨by rw [decide_eq_false (fun e => hlen (by rw [e]))], 0, rfl⟩
/-- The words of the docs ahead of i, and k of doc i: those that are different. -/
def difK (T : List Tx) (i k : Nat) : List (List UInt8) := St.mores [] (allW (T.take i) ++ (T.getD i (0, [])).2.take k)
theorem mores_snoc {α : Type} [DecidableEq α] (l es : List α) (e : α) : St.mores l (es ++ [e]) = St.more (St.mores l es) e := by simp [St.mores]
theorem difK_zero (T : List Tx) (i : Nat) : difK T i 0 = St.mores [] (allW (T.take i)) := by simp [difK]
theorem difK_snoc (T : List Tx) (i k : Nat) (t : Tx) (ht : T.getD i (0, []) = t) (hk : k < t.2.length) : difK T i (k + 1) = St.more (difK T i k) t.2[k] := by
  unfold difK
  rw [ht, take_snocL _ k hk, ← List.append_assoc, mores_snoc]
theorem difK_all (T : List Tx) (i : Nat) (hi : i < T.length) : difK T i (T.getD i (0, [])).2.length = difK T (i + 1) 0 := by
  rw [difK_zero]
  unfold difK
  rw [List.take_length, take_snocL _ i hi, allW_snoc, fst_getD _ _ hi]
theorem mores_len {α : Type} [DecidableEq α] (l es : List α) : (St.mores l es).length ≤ l.length + es.length := by
  induction es generalizing l with
  | nil => simp [St.mores]
  | cons e es ih =>
    have h1 : St.mores l (e :: es) = St.mores (St.more l e) es := rfl
    have h2 : (St.more l e).length ≤ l.length + 1 := by unfold St.more; split <;> simp
    rw [h1]
    have := ih (St.more l e)
    simp
    omega
theorem difK_len (T : List Tx) (i k : Nat) (hT : T.length ≤ 60) (hl : ∀ t ∈ T, t.2.length ≤ 60) : (difK T i k).length ≤ 3660 := by
  unfold difK
  have h1 := mores_len ([] : List (List UInt8)) (allW (T.take i) ++ (T.getD i (0, [])).2.take k)
  have h2 := allW_len (T.take i) (fun t ht => hl t (List.mem_of_mem_take ht))
  have h3 : (T.take i).length ≤ 60 := by rw [List.length_take]; omega
  have h4 : ((T.getD i (0, [])).2.take k).length ≤ 60 := by
    rw [List.length_take]
    have : (T.getD i (0, [])).2.length ≤ 60 := by
      by_cases hi : i < T.length
      · rw [fst_getD _ _ hi]; exact hl _ (List.getElem_mem hi)
      · simp [List.getD_eq_getElem?_getD, List.getElem?_eq_none (Nat.le_of_not_lt hi)]
    omega
  rw [List.length_append] at h1
  simp only [List.length_nil] at h1
  omega
theorem ba_eq {x y : List UInt8} : (ByteArray.mk x.toArray = ByteArray.mk y.toArray) ↔ x = y := by
  constructor
  · intro h
    have := congrArg (fun b : ByteArray => b.data.toList) h
    simpa using this
  · rintro rfl; rfl
set_option maxHeartbeats 2000000 in
set_option maxRecDepth 100000 in
/-- different. -/
theorem diff_any (v : Value) (T : List Tx) (vs : List Value) (B : Nat) (w : World) (h : TextsIs w B v T vs) (hT : T.length ≤ 60) (hl : ∀ t ∈ T, t.2.length ≤ 60) :
    Calls Tryz.prog 12 #[v] w fun e w' => e = .returned (.int .i64 ((St.mores [] (allW T)).length : Int)) ∧ Kp [] w w' := by
  obtain ⟨i0, hii, hz0, hz1, hz2⟩ := info_parts Tryz.info9
  obtain ⟨av, cv, rfl, hav⟩ := owns_forms h.row
  obtain ⟨n, hn⟩ : ∃ n, T.length = n := ⟨_, rfl⟩
  rw [hn] at hav ⊢
  have hn60 : n ≤ 60 := by omega
  have hlen : ∀ i k, (difK T i k).length ≤ 3660 := fun i k => difK_len T i k hT hl
  have HLEN := hide hlen
  have HH := hide h
  have HN := hide hn
  have HL := hide hl
  have hfin : Hid (difK T n 0 = St.mores [] (allW T)) := by
    show _ = _
    rw [difK_zero, List.take_of_length_le (by omega)]
  clear h hn hl hlen hT
  go_enter Tryz.func12, Tryz.ntmps12
  go_wp2_with fail
  go_loopw [3, 4] (fun lv iv wr => ∃ (i : Nat) (a : Option Addr) (m c : Nat), i ≤ n ∧ iv = .int .i64 (i : Int) ∧ lv = .slice a m c ∧ Hid ((difK T i 0).length = m) ∧ Hid (wr.ownsRow w.heap.size 9 1 (.slice a m c) m (strV (difK T i 0))) ∧ Hid (Kp [] w wr)) (fun _ iv _ => n - (intOf iv).toNat)
  case atStart => exact ⟨0, none, 0, 0, by omega, rfl, rfl, by show _ = _; rw [difK_zero]; rfl, World.ownsRow_nil _ _ _ _, Kp.refl _ _⟩
  case round =>
    obtain ⟨i, a, m, c, hi, rfl, rfl, hm, hown, hK⟩ := hrel
    by_cases hlt : i < n
    · obtain ⟨g, rfl⟩ := hav (by omega)
      have hiT : i < T.length := by rw [HN.out]; exact hlt
      have hiv : i < vs.length := by rw [HH.out.len]; exact hiT
      obtain ⟨t, ht⟩ : ∃ t, T[i] = t := ⟨_, rfl⟩
      obtain ⟨u, hu⟩ : ∃ u, vs[i] = u := ⟨_, rfl⟩
      have hrow0 := HH.out.each i hiT hiv
      rw [ht, hu] at hrow0
      obtain ⟨au, cu, eu, hau⟩ := owns_forms hrow0
      subst eu
      obtain ⟨nw, hnw⟩ : ∃ nw, t.2.length = nw := ⟨_, rfl⟩
      have hnw60 : nw ≤ 60 := by rw [← hnw, ← ht]; exact HL.out _ (List.getElem_mem hiT)
      have hcell := (HH.out.cells i hiT hiv).2
      rw [hu, hnw] at hcell
      have hgw := Mad.cell_lt hcell
      have HG : Hid (T.getD i (0, []) = t) := by show _ = _; rw [fst_getD _ _ hiT]; exact ht
      have HNW := hide hnw
      have HROW := hide hrow0
      have HC := hide hcell
      have HU := hide hu
      rw [hnw] at HROW hau
      have hnx : Hid (difK T i nw = difK T (i + 1) 0) := by
        show _ = _
        have := difK_all T i hiT
        rw [HG.out, hnw] at this
        exact this
      clear ht hrow0 hnw hcell hu
      have j1 : (i : Int) < (n : Int) := by omega
      have j2 : (0 : Int) ≤ (i : Int) := by omega
      go_wp2_with fail
      go_loopw [3, 5] (fun lv kv wr => ∃ (k : Nat) (a : Option Addr) (m c : Nat), k ≤ nw ∧ kv = .int .i64 (k : Int) ∧ lv = .slice a m c ∧ Hid ((difK T i k).length = m) ∧ Hid (wr.ownsRow w.heap.size 9 1 (.slice a m c) m (strV (difK T i k))) ∧ Hid (Kp [] w wr)) (fun _ kv _ => nw - (intOf kv).toNat)
      case atStart => exact ⟨0, a, m, c, by omega, rfl, rfl, hm, hown, hK⟩
      case round =>
        clear hm hown hK
        obtain ⟨k, a, m, c, hk, rfl, rfl, hm, hown, hK⟩ := hrel
        have hc2 := hK.out.cellv HC.out (by simp)
        have hmb : m ≤ 3660 := by rw [← hm.out]; exact HLEN.out i k
        by_cases hlt2 : k < nw
        · obtain ⟨gu, rfl⟩ := hau (by omega)
          have hkt : k < t.2.length := by rw [HNW.out]; exact hlt2
          have hcw := strs_cells (hK.out.owns HROW.out (by simp)) HNW.out k hkt
          obtain ⟨x, hx⟩ : ∃ x, t.2[k] = x := ⟨_, rfl⟩
          have hsn := difK_snoc T i k t HG.out hkt
          rw [hx] at hcw hsn
          have HSN := hide hsn
          obtain ⟨al, cl, el, hal⟩ := owns_forms hown.out
          injection el with el1 el2 el3
          subst el1 el3
          obtain ⟨W1, rfl⟩ : ∃ W1, W1 = wr := ⟨_, rfl⟩
          have hgl := hK.out.size
          have j3 : (k : Int) < (nw : Int) := by omega
          have j4 : (0 : Int) ≤ (k : Int) := by omega
          clear hx hkt hsn
          go_wp2_with fail
          go_loopw [6, 7] (fun bv jv w2 => ∃ (j : Nat) (b : Bool) (q : Nat), j ≤ m ∧ jv = .int .i64 (j : Int) ∧ bv = .bool b ∧ Hid (b = decide (x ∈ (difK T i k).take j)) ∧ w2 = W1.drewN q) (fun _ jv _ => m - (intOf jv).toNat)
          case atStart => exact ⟨0, false, 0, by omega, rfl, rfl, by show _ = _; simp, rfl⟩
          case round =>
            obtain ⟨j, b, q, hj, rfl, rfl, hb, rfl⟩ := hrel
            by_cases hlt3 : j < m
            · obtain ⟨gl, rfl⟩ := hal (by omega)
              have hjl : j < (difK T i k).length := by rw [hm.out]; exact hlt3
              have hcl := strs_cells hown.out hm.out j hjl
              obtain ⟨y, hy⟩ : ∃ y, (difK T i k)[j] = y := ⟨_, rfl⟩
              rw [hy] at hcl
              have htk : Hid (decide (x ∈ (difK T i k).take (j + 1)) = (b || decide (x = y))) := by
                show _ = _
                rw [take_snocL _ j hjl, hy, hb.out]
                simp [Bool.decide_or]
              have j5 : (j : Int) < (m : Int) := by omega
              have j6 : (0 : Int) ≤ (j : Int) := by omega
              clear hy hjl
              cases b with
              | true =>
                go_wp2_with fail
                go_quiet (fail)
                go_wp2_with fail
                exact ⟨⟨j + 1, true, q + nq, by omega, by go_num, rfl, by show _ = _; rw [htk.out]; rfl, rfl⟩, by simp [intOf]; omega⟩
              | false =>
                by_cases hxy : x = y
                · subst hxy
                  go_wp2_with fail
                  go_quiet (fail)
                  go_wp2_with fail
                  exact ⟨⟨j + 1, true, q + nq, by omega, by go_num, rfl, by show _ = _; rw [htk.out]; simp, rfl⟩, by simp [intOf]; omega⟩
                · have hd : Hid (decide (x ∈ (difK T i k).take (j + 1)) = false) := by show _ = _; rw [htk.out]; simp [hxy]
                  have hne : ¬ (ByteArray.mk y.toArray = ByteArray.mk x.toArray) := fun e => hxy (ba_eq.1 e).symm
                  have hyb : Hid ((y == x) = false) := beq_eq_false_iff_ne.2 (fun e => hxy e.symm)
                  clear htk hxy
                  go_wp2_with fail
                  go_quiet (fail)
                  go_wp2_with fail
                  exact ⟨⟨j + 1, false, q + nq, by omega, by go_num, congrArg Value.bool hyb.out, hd.out.symm, rfl⟩, by simp [intOf]; omega⟩
            · have hjm : j = m := by omega
              subst hjm
              have hltz : ¬ (j : Int) < (j : Int) := by omega
              have hbx : Hid (b = decide (x ∈ difK T i k)) := by
                show _ = _
                rw [hb.out, List.take_of_length_le (by rw [hm.out]; omega)]
              obtain ⟨W2, hW2⟩ : ∃ W2, W1.drewN q = W2 := ⟨_, rfl⟩
              have k12 : Kp [] W1 W2 := by rw [← hW2]; exact (Kp.refl _ _).drewN q
              have HK2 := hide (hK.out.next k12)
              have HO2 := hide (k12.owns hown.out (by simp))
              have d2 := k12.cellv hc2 (by simp)
              have d3 := k12.cellv hcw (by simp)
              have hzz := k12.size
              rw [hW2]
              clear hb k12 hW2 hcw hc2
              cases b with
              | true =>
                have hsame : Hid (difK T i (k + 1) = difK T i k) := by
                  show _ = _
                  have := hbx.out
                  rw [HSN.out]; unfold St.more; rw [if_pos (of_decide_eq_true this.symm)]
                go_wp2_with fail
                go_roundw
                case measure => simp [intOf]; omega
                case rel => exact ⟨k + 1, a, j, c, by omega, by go_num, rfl, by show _ = _; rw [hsame.out]; exact hm.out, by show _; rw [hsame.out]; exact HO2.out, HK2⟩
              | false =>
                have hmore : Hid (difK T i (k + 1) = difK T i k ++ [x]) := by
                  show _ = _
                  have := hbx.out
                  rw [HSN.out]; unfold St.more; rw [if_neg (of_decide_eq_false this.symm)]
                go_wp2_with (first
                  | (at_builtin; refine wpList_append_own_at _ rfl _ _ 37 rfl w.heap.size 9 i0 (.string ⟨#[]⟩) 1 16 Tryz.underlying37 hii hz0 hz1 hz2 rfl (by decide) _ _ _ rfl (HO2.out.alloc _) ⟨W2.heap.size, 0, none⟩ 1 1 [.string ⟨x.toArray⟩] rfl rfl (one_new _ _ _) ?c2 ?c3 ?c4 ?c5 ?_)
                  | fail)
                case c2 => rfl
                case c3 => unfold maxLen; omega
                case c4 => omega
                case c5 => omega
                intro v' w4 hown4 hgrow4 _ hloc
                have k24 : Kp (Value.slice a j c).ownBlock.toList W2 w4 := ((Kp.refl _ _).alloc _).grown hgrow4 (fun y hy => .inl (by rw [Option.mem_toList]; exact hy))
                have hK4 : Hid (Kp [] w w4) := by
                  show Kp [] w w4
                  exact HK2.out.trans k24 (fun y hy => .inr (HO2.out.lt y (by simpa using hy)).1)
                obtain ⟨a4, c4, ev4, _⟩ := owns_forms hown4
                subst ev4
                have hO4 : Hid (w4.ownsRow w.heap.size 9 1 (.slice a4 (j + 1) c4) (j + 1) (strV (difK T i (k + 1)))) := by
                  show World.ownsRow _ _ _ _ _ _ _
                  rw [hmore.out, strV_snoc]
                  exact hown4
                have hm4 : Hid ((difK T i (k + 1)).length = j + 1) := by
                  show _ = _
                  rw [hmore.out, List.length_append, hm.out]; rfl
                clear hown4 hgrow4 hloc k24 HO2 HK2 hmore
                go_wp2_with fail
                go_roundw
                case measure => simp [intOf]; omega
                case rel => exact ⟨k + 1, a4, j + 1, c4, by omega, by go_num, rfl, hm4, hO4, hK4⟩
        · have hkn : k = nw := by omega
          subst hkn
          have hltz : ¬ (k : Int) < (k : Int) := by omega
          go_wp2_with fail
          go_roundw
          case measure => simp [intOf]; omega
          case rel => exact ⟨i + 1, a, m, c, by omega, by go_num, rfl, by show _ = _; rw [← hnx.out]; exact hm.out, by show World.ownsRow _ _ _ _ _ _ _; rw [← hnx.out]; exact hown.out, hK⟩
    · have hin : i = n := by omega
      subst hin
      have hltz : ¬ (i : Int) < (i : Int) := by omega
      go_wp2_with fail
      go_ret
      exact ⟨ret_int (by rw [← hfin.out, hm.out]), hK.out⟩
end Go.Proofs.YtnffagpdnklnkaaGreatDoor.Pak
