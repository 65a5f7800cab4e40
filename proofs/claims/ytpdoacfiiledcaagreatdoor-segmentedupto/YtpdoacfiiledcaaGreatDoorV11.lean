import Derived.Test.YtpdoacfiiledcaaGreatDoorV00
namespace Go.Proofs.YtpdoacfiiledcaaGreatDoor.St
set_option linter.unusedVariables false

/-- What leads out of a state. -/
structure Ex where
  ends : Bool
  to : List Nat
deriving DecidableEq

abbrev Wd := List Nat
def res (D : List Wd) (p : Wd) : List Wd := (D.filter (fun d => p.isPrefixOf d)).map (·.drop p.length)
def lsAt (ls : List (List Wd)) : Nat → List Wd
  | 0 => []
  | s + 1 => ls.getD s []
/-- The texts behind a state of these exits. -/
def lang (ls : List (List Wd)) (e : Ex) : List Wd := (if e.ends then [[]] else []) ++ (List.range 36).flatMap (fun j => (lsAt ls (e.to.getD j 0)).map (j :: ·))

/-- States that were made so far, and the texts behind each. -/
structure G (kn : List Ex) (ls : List (List Wd)) : Prop where
  len : kn.length = ls.length
  nd : kn.Nodup
  ne : ∀ i (h : i < ls.length), ls[i] ≠ []
  lg : ∀ i (h : i < ls.length) (h2 : i < kn.length), ls[i] = lang ls kn[i]
  lt : ∀ i (h2 : i < kn.length) j, (kn[i].to.getD j 0) ≤ i
  sz : ∀ i (h2 : i < kn.length), kn[i].to.length = 36

theorem nodup_inj {α : Type} {l : List α} (h : l.Nodup) {a b : Nat} (ha : a < l.length) (hb : b < l.length) (e : l[a] = l[b]) : a = b := by
  have hp : l.Pairwise (· ≠ ·) := h
  rw [List.pairwise_iff_getElem] at hp
  rcases Nat.lt_trichotomy a b with h1 | h1 | h1
  · exact absurd e (hp a b ha hb h1)
  · exact h1
  · exact absurd e.symm (hp b a hb ha h1)

/-- What stands behind a sign. -/
def after (j : Nat) (R : List Wd) : List Wd := R.filterMap fun d => match d with
  | [] => none
  | c :: t => if c = j then some t else none
theorem after_append (j : Nat) (A B : List Wd) : after j (A ++ B) = after j A ++ after j B := by simp [after, List.filterMap_append]
theorem after_map_same (j : Nat) (R : List Wd) : after j (R.map (j :: ·)) = R := by
  induction R with
  | nil => rfl
  | cons a r ih => simp only [after, List.map_cons, List.filterMap_cons, if_true] at ih ⊢; rw [ih]
theorem after_map_other {j k : Nat} (h : k ≠ j) (R : List Wd) : after j (R.map (k :: ·)) = [] := by
  induction R with
  | nil => rfl
  | cons a r ih => simp only [after, List.map_cons, List.filterMap_cons, h, if_false] at ih ⊢; exact ih
theorem after_flat (f : Nat → List Wd) (j : Nat) : ∀ n, after j ((List.range n).flatMap fun i => (f i).map (i :: ·)) = if j < n then f j else []
  | 0 => by simp [after]
  | n + 1 => by
    rw [List.range_succ, List.flatMap_append, after_append, after_flat f j n]
    simp only [List.flatMap_cons, List.flatMap_nil, List.append_nil]
    by_cases h : j < n
    · rw [if_pos h, if_pos (by omega), after_map_other (by omega), List.append_nil]
    · rw [if_neg h]
      by_cases h2 : j = n
      · subst h2; rw [after_map_same, if_pos (by omega)]; rfl
      · rw [after_map_other (by omega), if_neg (by omega)]; rfl
theorem after_lang {ls : List (List Wd)} {e : Ex} {j : Nat} (hj : j < 36) : after j (lang ls e) = lsAt ls (e.to.getD j 0) := by
  unfold lang
  rw [after_append, after_flat (fun i => lsAt ls (e.to.getD i 0)) j 36, if_pos hj]
  split <;> simp [after]
theorem nil_lang {ls : List (List Wd)} {e : Ex} : [] ∈ lang ls e ↔ e.ends = true := by
  unfold lang
  constructor
  · intro h
    rcases List.mem_append.1 h with h | h
    · split at h
      · assumption
      · simp at h
    · obtain ⟨k, hk, hw⟩ := List.mem_flatMap.1 h
      obtain ⟨x, hx, e⟩ := List.mem_map.1 hw
      cases e
  · intro h
    exact List.mem_append.2 (.inl (by simp [h]))

/-- States with the same texts behind them are one. -/
theorem G.inj {kn : List Ex} {ls : List (List Wd)} (h : G kn ls) : ∀ n a b (ha : a < ls.length) (hb : b < ls.length), a < n → ls[a] = ls[b] → a = b := by
  intro n
  induction n with
  | zero => intro a b _ _ h0; omega
  | succ n ih =>
    intro a b ha hb hn e
    have ha' : a < kn.length := by rw [h.len]; exact ha
    have hb' : b < kn.length := by rw [h.len]; exact hb
    have e1 : lang ls kn[a] = lang ls kn[b] := by rw [← h.lg a ha ha', ← h.lg b hb hb', e]
    have hE : kn[a].ends = kn[b].ends := by
      have h1 := @nil_lang ls kn[a]
      have h2 := @nil_lang ls kn[b]
      rw [e1] at h1
      have h3 := h1.symm.trans h2
      cases hx : kn[a].ends <;> cases hy : kn[b].ends <;> simp [hx, hy] at h3 ⊢
    have hT : ∀ j, j < 36 → kn[a].to.getD j 0 = kn[b].to.getD j 0 := by
      intro j hj
      have h1 : lsAt ls (kn[a].to.getD j 0) = lsAt ls (kn[b].to.getD j 0) := by rw [← after_lang hj, ← after_lang hj, e1]
      have la := h.lt a ha' j
      have lb := h.lt b hb' j
      generalize kn[a].to.getD j 0 = x at *
      generalize kn[b].to.getD j 0 = y at *
      cases x with
      | zero =>
        cases y with
        | zero => rfl
        | succ y =>
          have hy : y < ls.length := by omega
          simp only [lsAt, List.getD_eq_getElem?_getD, List.getElem?_eq_getElem hy, Option.getD_some] at h1
          exact absurd h1.symm (h.ne y hy)
      | succ x =>
        have hx : x < ls.length := by omega
        cases y with
        | zero =>
          simp only [lsAt, List.getD_eq_getElem?_getD, List.getElem?_eq_getElem hx, Option.getD_some] at h1
          exact absurd h1 (h.ne x hx)
        | succ y =>
          have hy : y < ls.length := by omega
          simp only [lsAt, List.getD_eq_getElem?_getD, List.getElem?_eq_getElem hx, List.getElem?_eq_getElem hy, Option.getD_some] at h1
          have := ih x y hx hy (by omega) h1
          omega
    have hK : kn[a] = kn[b] := by
      have s1 := h.sz a ha'
      have s2 := h.sz b hb'
      cases hA : kn[a] with
      | mk ea ta =>
        cases hB : kn[b] with
        | mk eb tb =>
          rw [hA, hB] at hE
          rw [hA] at s1
          rw [hB] at s2
          simp only [hA, hB] at hT
          simp only [Ex.mk.injEq]
          refine ⟨hE, List.ext_getElem (by rw [show ta.length = 36 from s1, show tb.length = 36 from s2]) fun j h1 h2 => ?_⟩
          have := hT j (by have : ta.length = 36 := s1; omega)
          simpa [List.getD_eq_getElem?_getD, List.getElem?_eq_getElem h1, List.getElem?_eq_getElem h2] using this
    exact nodup_inj h.nd ha' hb' hK
theorem G.nodup {kn : List Ex} {ls : List (List Wd)} (h : G kn ls) : ls.Nodup := by
  show ls.Pairwise (· ≠ ·)
  rw [List.pairwise_iff_getElem]
  intro i j hi hj hij e
  have := h.inj (i + 1) i j hi hj (by omega) e
  omega
end Go.Proofs.YtpdoacfiiledcaaGreatDoor.St

namespace Go.Proofs.YtpdoacfiiledcaaGreatDoor.St
set_option linter.unusedVariables false

theorem lsAt_pre {ls ls' : List (List Wd)} (h : ls <+: ls') : ∀ s, s ≤ ls.length → lsAt ls' s = lsAt ls s
  | 0, _ => rfl
  | s + 1, hs => by
    obtain ⟨m, rfl⟩ := h
    simp only [lsAt, List.getD_eq_getElem?_getD]
    rw [List.getElem?_append_left (by omega)]
theorem lang_pre {ls ls' : List (List Wd)} (h : ls <+: ls') {e : Ex} (he : ∀ j, e.to.getD j 0 ≤ ls.length) : lang ls' e = lang ls e := by
  unfold lang
  congr 1
  have : (fun j => (lsAt ls' (e.to.getD j 0)).map (j :: ·)) = (fun j => (lsAt ls (e.to.getD j 0)).map (j :: ·)) := by
    funext j; rw [lsAt_pre h _ (he j)]
  rw [this]

/-- The state of these exits. -/
def stOf (kn : List Ex) (e : Ex) : Nat × List Ex := if e ∈ kn then (kn.idxOf e + 1, kn) else (kn.length + 1, kn ++ [e])

theorem stOf_spec {kn : List Ex} {ls : List (List Wd)} (h : G kn ls) (e : Ex) (hs : e.to.length = 36) (hl : ∀ j, e.to.getD j 0 ≤ ls.length) (hne : lang ls e ≠ []) :
    ∃ ls', G (stOf kn e).2 ls' ∧ ls <+: ls' ∧ kn <+: (stOf kn e).2 ∧ 1 ≤ (stOf kn e).1 ∧ (stOf kn e).1 ≤ ls'.length ∧ lsAt ls' (stOf kn e).1 = lang ls e ∧ ∀ R, R ∈ ls' ↔ R ∈ ls ∨ R = lang ls e := by
  unfold stOf
  by_cases hm : e ∈ kn
  · rw [if_pos hm]
    have hi : kn.idxOf e < kn.length := List.idxOf_lt_length_of_mem hm
    have hi2 : kn.idxOf e < ls.length := by rw [← h.len]; exact hi
    have he : ls[kn.idxOf e] = lang ls e := by
      rw [h.lg _ hi2 hi]; congr 1; exact List.getElem_idxOf hi
    refine ⟨ls, h, List.prefix_refl _, List.prefix_refl _, by simp, hi2, ?_, fun R => ⟨.inl, fun hR => ?_⟩⟩
    · simp only [lsAt, List.getD_eq_getElem?_getD, List.getElem?_eq_getElem hi2, Option.getD_some]; exact he
    · rcases hR with hR | rfl
      · exact hR
      · rw [← he]; exact List.getElem_mem _
  · rw [if_neg hm]
    have hp : ls <+: ls ++ [lang ls e] := List.prefix_append _ _
    refine ⟨ls ++ [lang ls e], ⟨by simp [h.len], ?_, ?_, ?_, ?_, ?_⟩, hp, List.prefix_append _ _, by simp, by simp [h.len], ?_, fun R => by simp⟩
    · show (kn ++ [e]).Pairwise (· ≠ ·)
      rw [List.pairwise_append]
      exact ⟨h.nd, by simp, fun a ha b hb => by simp at hb; subst hb; exact fun e' => hm (e' ▸ ha)⟩
    · intro i hi
      by_cases hlt : i < ls.length
      · rw [List.getElem_append_left hlt]; exact h.ne i hlt
      · rw [List.getElem_append_right (by omega)]; simpa using hne
    · intro i hi hi2
      by_cases hlt : i < ls.length
      · rw [List.getElem_append_left hlt, List.getElem_append_left (by rw [h.len]; exact hlt)]
        have hk : i < kn.length := by rw [h.len]; exact hlt
        rw [lang_pre hp (fun j => by have := h.lt i hk j; omega)]
        exact h.lg i hlt hk
      · have hk : ¬ i < kn.length := by rw [h.len]; exact hlt
        have hii : i = ls.length := by simp at hi; omega
        rw [List.getElem_append_right (by omega), List.getElem_append_right (by omega)]
        simp only [hii, h.len, Nat.sub_self, List.getElem_singleton]
        exact (lang_pre hp hl).symm
    · intro i hi2 j
      by_cases hlt : i < kn.length
      · rw [List.getElem_append_left hlt]; exact h.lt i hlt j
      · rw [List.getElem_append_right (by omega)]
        have hii : i = kn.length := by simp at hi2; omega
        simp only [hii, Nat.sub_self, List.getElem_singleton]
        have := hl j
        rw [h.len]; exact this
    · intro i hi2
      by_cases hlt : i < kn.length
      · rw [List.getElem_append_left hlt]; exact h.sz i hlt
      · rw [List.getElem_append_right (by omega)]; simpa using hs
    · simp only [lsAt, List.getD_eq_getElem?_getD, h.len]
      rw [List.getElem?_append_right (by omega)]
      simp

/-- The order of words. -/
def wlt : Wd → Wd → Prop
  | [], [] => False
  | [], _ :: _ => True
  | _ :: _, [] => False
  | a :: x, b :: y => a < b ∨ a = b ∧ wlt x y
def Srt (D : List Wd) : Prop := D.Pairwise wlt
def hd (d : Wd) : Nat := d.headD 99

theorem after_cons_ne {j : Nat} {d : Wd} (D : List Wd) (h : ∀ t, d ≠ j :: t) : after j (d :: D) = after j D := by
  cases d with
  | nil => rfl
  | cons c t =>
    have : c ≠ j := fun e => h t (by rw [e])
    simp [after, this]
theorem after_cons_eq (j : Nat) (t : Wd) (D : List Wd) : after j ((j :: t) :: D) = t :: after j D := by simp [after]
theorem mem_after {j : Nat} {t : Wd} {D : List Wd} : t ∈ after j D ↔ j :: t ∈ D := by
  induction D with
  | nil => simp [after]
  | cons d D ih =>
    by_cases h : ∃ s, d = j :: s
    · obtain ⟨s, rfl⟩ := h
      rw [after_cons_eq]; simp [ih]
    · have h' : ∀ s, d ≠ j :: s := fun s e => h ⟨s, e⟩
      rw [after_cons_ne D h', ih]
      simp only [List.mem_cons]
      exact ⟨.inr, fun h => h.resolve_left fun e => h' t e.symm⟩
theorem res_nil (D : List Wd) : res D [] = D := by
  unfold res
  simp
theorem res_cons (D : List Wd) (j : Nat) (q : Wd) : res D (j :: q) = res (after j D) q := by
  induction D with
  | nil => rfl
  | cons d D ih =>
    by_cases h : ∃ s, d = j :: s
    · obtain ⟨s, rfl⟩ := h
      rw [after_cons_eq]
      unfold res at ih ⊢
      rw [List.filter_cons, List.filter_cons]
      by_cases hq : q.isPrefixOf s = true
      · have h1 : (j :: q).isPrefixOf (j :: s) = true := by simp [List.isPrefixOf, hq]
        rw [if_pos h1, if_pos hq, List.map_cons, List.map_cons, ih]; rfl
      · have h1 : ¬ (j :: q).isPrefixOf (j :: s) = true := by simpa [List.isPrefixOf] using hq
        rw [if_neg h1, if_neg hq]; exact ih
    · have h' : ∀ s, d ≠ j :: s := fun s e => h ⟨s, e⟩
      rw [after_cons_ne D h', ← ih]
      unfold res
      rw [List.filter_cons]
      have h1 : ¬ (j :: q).isPrefixOf d = true := by
        cases d with
        | nil => simp [List.isPrefixOf]
        | cons c t =>
          intro e
          simp [List.isPrefixOf] at e
          exact h' t (by rw [e.1])
      rw [if_neg h1]

/-- Words by their heads. -/
theorem srt_heads {a b : Wd} (ha : a ≠ []) (h : wlt a b) : hd a ≤ hd b := by
  cases a with
  | nil => exact absurd rfl ha
  | cons x t =>
    cases b with
    | nil => exact h.elim
    | cons y s => rcases h with h | ⟨h, _⟩ <;> simp [hd] <;> omega
theorem flat_sorted : ∀ n (A : List Wd), A.Pairwise (fun a b => hd a ≤ hd b) → (∀ a ∈ A, a ≠ []) → (∀ a ∈ A, hd a < n) → (List.range n).flatMap (fun j => (after j A).map (j :: ·)) = A
  | 0, A, _, _, h => by
    cases A with
    | nil => rfl
    | cons a r => exact absurd (h a (by simp)) (by omega)
  | n + 1, A, hp, hne, hlt => by
    have hspl : A = A.filter (fun a => decide (hd a < n)) ++ A.filter (fun a => !decide (hd a < n)) := by
      clear hlt hne
      induction A with
      | nil => rfl
      | cons a r ih =>
        have hp' := List.pairwise_cons.1 hp
        by_cases h : hd a < n
        · rw [List.filter_cons_of_pos (by simpa using h), List.filter_cons_of_neg (by simpa using h), List.cons_append]
          congr 1
          exact ih hp'.2
        · have hall : ∀ b ∈ r, ¬ hd b < n := fun b hb => by have := hp'.1 b hb; omega
          rw [List.filter_cons_of_neg (by simpa using h), List.filter_cons_of_pos (by simpa using h)]
          have h1 : r.filter (fun a => decide (hd a < n)) = [] := List.filter_eq_nil_iff.2 fun b hb => by simpa using hall b hb
          have h2 : r.filter (fun a => !decide (hd a < n)) = r := List.filter_eq_self.2 fun b hb => by simpa using hall b hb
          rw [h1, h2]; rfl
    generalize hA1 : A.filter (fun a => decide (hd a < n)) = A1 at hspl
    generalize hA2 : A.filter (fun a => !decide (hd a < n)) = A2 at hspl
    have h1 : ∀ a ∈ A1, a ∈ A ∧ hd a < n := fun a ha => by rw [← hA1, List.mem_filter] at ha; exact ⟨ha.1, by simpa using ha.2⟩
    have h2 : ∀ a ∈ A2, a ∈ A ∧ hd a = n := fun a ha => by
      rw [← hA2, List.mem_filter] at ha
      have hq : ¬ hd a < n := by simpa using ha.2
      have := hlt a ha.1
      exact ⟨ha.1, by omega⟩
    have ea2 : ∀ j, j < n → after j A2 = [] := by
      intro j hj
      clear hA2 hspl
      induction A2 with
      | nil => rfl
      | cons a r ih =>
        have ha := h2 a (by simp)
        rw [after_cons_ne _ (fun t e => by subst e; simp [hd] at ha; omega)]
        exact ih fun b hb => h2 b (by simp [hb])
    have ea1 : after n A1 = [] := by
      clear hA1 hspl
      induction A1 with
      | nil => rfl
      | cons a r ih =>
        have ha := h1 a (by simp)
        rw [after_cons_ne _ (fun t e => by subst e; simp [hd] at ha)]
        exact ih fun b hb => h1 b (by simp [hb])
    have e2 : (after n A2).map (n :: ·) = A2 := by
      clear hA2 hspl ea2
      induction A2 with
      | nil => rfl
      | cons a r ih =>
        have ha := h2 a (by simp)
        cases a with
        | nil => exact absurd rfl (hne _ ha.1)
        | cons c t =>
          have hc : c = n := by simpa [hd] using ha.2
          subst hc
          rw [after_cons_eq, List.map_cons, ih fun b hb => h2 b (by simp [hb])]
    have hp1 : A1.Pairwise (fun a b => hd a ≤ hd b) := by rw [hspl] at hp; exact (List.pairwise_append.1 hp).1
    have ih := flat_sorted n A1 hp1 (fun a ha => hne a (h1 a ha).1) (fun a ha => (h1 a ha).2)
    rw [List.range_succ, List.flatMap_append]
    have hf : (List.range n).flatMap (fun j => (after j A).map (j :: ·)) = (List.range n).flatMap (fun j => (after j A1).map (j :: ·)) := by
      rw [List.flatMap_def, List.flatMap_def]
      congr 1
      refine List.map_congr_left fun j hj => ?_
      rw [hspl, after_append, ea2 j (List.mem_range.1 hj), List.append_nil]
    rw [hf, ih]
    simp only [List.flatMap_cons, List.flatMap_nil, List.append_nil]
    rw [hspl, after_append, ea1, List.nil_append]
    have : A1 ++ A2 = A1 ++ (after n A2).map (n :: ·) := by rw [e2]
    exact this.symm
end Go.Proofs.YtpdoacfiiledcaaGreatDoor.St

namespace Go.Proofs.YtpdoacfiiledcaaGreatDoor.St
set_option linter.unusedVariables false

/-- How many words at the beginning have the sign of the first one. -/
def same (D : List Wd) : Nat := (D.takeWhile fun x => hd x == hd (D.headD [])).length
/-- All groups of words, one sign each. -/
def grp (beh : List Wd → List Ex → Nat × List Ex) : Nat → List Wd → List Nat → List Ex → List Nat × List Ex
  | 0, _, to, kn => (to, kn)
  | g + 1, D, to, kn => if D = [] then (to, kn) else
      let r := beh ((D.take (same D)).map List.tail) kn
      grp beh g (D.drop (same D)) (to.set (hd (D.headD [])) r.1) r.2
/-- The state behind which these words are. -/
def beh : Nat → List Wd → List Ex → Nat × List Ex
  | 0, _, kn => (0, kn)
  | f + 1, D, kn =>
    let ends := (D.headD [0]).isEmpty
    let D' := bif ends then D.tail else D
    let r := grp (beh f) D'.length D' (List.replicate 36 0) kn
    stOf r.2 ⟨ends, r.1⟩

/-- What a run of the builder gives. -/
def Beh (D : List Wd) (kn : List Ex) (ls : List (List Wd)) (r : Nat × List Ex) : Prop :=
  ∃ ls', G r.2 ls' ∧ ls <+: ls' ∧ kn <+: r.2 ∧ 1 ≤ r.1 ∧ r.1 ≤ ls'.length ∧ lsAt ls' r.1 = D ∧ ∀ R, R ∈ ls' ↔ R ∈ ls ∨ ∃ p d, d ∈ D ∧ p <+: d ∧ R = res D p

theorem tw_take {α : Type} (p : α → Bool) : ∀ l : List α, l.take (l.takeWhile p).length = l.takeWhile p
  | [] => rfl
  | a :: r => by
    rw [List.takeWhile_cons]
    split
    · rw [List.length_cons, List.take_succ_cons, tw_take p r]
    · rfl
theorem tw_drop {α : Type} (p : α → Bool) : ∀ l : List α, l.drop (l.takeWhile p).length = l.dropWhile p
  | [] => rfl
  | a :: r => by
    rw [List.takeWhile_cons, List.dropWhile_cons]
    split
    · rw [List.length_cons, List.drop_succ_cons, tw_drop p r]
    · rfl
theorem take_same (D : List Wd) : D.take (same D) = D.takeWhile fun x => hd x == hd (D.headD []) := by
  unfold same
  exact tw_take _ _
theorem drop_same (D : List Wd) : D.drop (same D) = D.dropWhile fun x => hd x == hd (D.headD []) := by
  unfold same
  exact tw_drop _ _

theorem group_tails {j : Nat} : ∀ (l : List Wd), (∀ x ∈ l, x ≠ []) → (∀ x ∈ l, hd x = j) → l.map List.tail = after j l
  | [], _, _ => rfl
  | x :: r, hne, hj => by
    cases x with
    | nil => exact absurd rfl (hne _ (by simp))
    | cons c t =>
      have hc : c = j := by simpa [hd] using hj (c :: t) (by simp)
      subst hc
      rw [after_cons_eq, List.map_cons, group_tails r (fun x hx => hne x (by simp [hx])) (fun x hx => hj x (by simp [hx]))]
      rfl
theorem after_none {j : Nat} : ∀ (l : List Wd), (∀ x ∈ l, hd x ≠ j) → after j l = []
  | [], _ => rfl
  | x :: r, h => by
    have hx := h x (by simp)
    rw [after_cons_ne _ (fun t e => hx (by rw [e]; rfl))]
    exact after_none r fun y hy => h y (by simp [hy])
theorem srt_after {j : Nat} : ∀ (D : List Wd), Srt D → Srt (after j D)
  | [], _ => List.Pairwise.nil
  | d :: D, h => by
    have hp := List.pairwise_cons.1 h
    by_cases hd' : ∃ t, d = j :: t
    · obtain ⟨t, rfl⟩ := hd'
      rw [after_cons_eq]
      refine List.pairwise_cons.2 ⟨fun x hx => ?_, srt_after D hp.2⟩
      have := hp.1 (j :: x) (mem_after.1 hx)
      rcases this with h | ⟨_, h⟩
      · omega
      · exact h
    · rw [after_cons_ne D fun t e => hd' ⟨t, e⟩]
      exact srt_after D hp.2

/-- The groups. -/
structure Grp (ls0 ls : List (List Wd)) (kn0 kn : List Ex) (to : List Nat) (done : List Wd) : Prop where
  g : G kn ls
  pre : ls0 <+: ls
  prk : kn0 <+: kn
  len : to.length = 36
  le : ∀ j, to.getD j 0 ≤ ls.length
  at' : ∀ j, j < 36 → lsAt ls (to.getD j 0) = after j done
  mem : ∀ R, R ∈ ls ↔ R ∈ ls0 ∨ ∃ j q t, j :: t ∈ done ∧ q <+: t ∧ R = res (after j done) q

theorem getD_set (l : List Nat) (i j v : Nat) (hi : i < l.length) : (l.set i v).getD j 0 = if j = i then v else l.getD j 0 := by
  simp only [List.getD_eq_getElem?_getD, List.getElem?_set]
  by_cases h : i = j
  · subst h; simp [hi]
  · rw [if_neg h, if_neg (fun e => h e.symm)]

theorem grp_spec (bh : List Wd → List Ex → Nat × List Ex) (A : List Wd) (ls0 : List (List Wd)) (kn0 : List Ex) (hA : Srt A) (hne : ∀ x ∈ A, x ≠ []) (h36 : ∀ x ∈ A, hd x < 36)
    (hbh : ∀ j, j < 36 → after j A ≠ [] → ∀ kn ls, G kn ls → Beh (after j A) kn ls (bh (after j A) kn)) :
    ∀ (g : Nat) (done D : List Wd) (to : List Nat) (kn : List Ex) (ls : List (List Wd)), A = done ++ D → D.length ≤ g → (∀ x ∈ done, ∀ y ∈ D, hd x < hd y) → Grp ls0 ls kn0 kn to done →
      ∃ ls', Grp ls0 ls' kn0 (grp bh g D to kn).2 (grp bh g D to kn).1 A
  | 0, done, D, to, kn, ls, e, hg, _, h => by
    have : D = [] := List.length_eq_zero_iff.1 (by omega)
    subst this
    rw [List.append_nil] at e
    subst e
    exact ⟨ls, h⟩
  | g + 1, done, D, to, kn, ls, e, hg, hsep, h => by
    unfold grp
    by_cases hD : D = []
    · rw [if_pos hD]
      subst hD
      rw [List.append_nil] at e
      subst e
      exact ⟨ls, h⟩
    · rw [if_neg hD]
      obtain ⟨d, D1, rfl⟩ : ∃ d D1, D = d :: D1 := by
        cases D with
        | nil => exact absurd rfl hD
        | cons d D1 => exact ⟨d, D1, rfl⟩
      simp only [List.headD_cons]
      have hdA : d ∈ A := by rw [e]; simp
      obtain ⟨j, hj⟩ : ∃ j, hd d = j := ⟨_, rfl⟩
      have hj36 : j < 36 := by rw [← hj]; exact h36 d hdA
      rw [take_same, drop_same]
      simp only [List.headD_cons, hj]
      have hsrtD : Srt (d :: D1) := by rw [e] at hA; exact (List.pairwise_append.1 hA).2.1
      have hle : ∀ x ∈ D1, j ≤ hd x := fun x hx => by
        rw [← hj]; exact srt_heads (hne d hdA) ((List.pairwise_cons.1 hsrtD).1 x hx)
      generalize hG1 : (d :: D1).takeWhile (fun x => hd x == j) = G1
      generalize hG2 : (d :: D1).dropWhile (fun x => hd x == j) = G2
      have hspl : d :: D1 = G1 ++ G2 := by rw [← hG1, ← hG2, List.takeWhile_append_dropWhile]
      have hd1 : d ∈ G1 := by
        rw [← hG1, List.takeWhile_cons_of_pos (by simp [hj])]; simp
      have h1 : ∀ x ∈ G1, hd x = j := fun x hx => by
        rw [← hG1] at hx
        simpa using List.all_eq_true.1 (List.all_takeWhile (p := fun x => hd x == j) (l := d :: D1)) x hx
      have hpG : ∀ x ∈ G1, x ∈ A := fun x hx => by rw [e, hspl]; simp [hx]
      have h2 : ∀ x ∈ G2, j < hd x := by
        intro x hx
        have hG2n : G2 ≠ [] := fun e' => by rw [e'] at hx; simp at hx
        obtain ⟨y, r, hyr⟩ : ∃ y r, G2 = y :: r := by
          cases hG : G2 with
          | nil => exact absurd hG hG2n
          | cons y r => exact ⟨y, r, rfl⟩
        have hy : hd y ≠ j := by
          have := List.head?_dropWhile_not (fun x => hd x == j) (d :: D1)
          rw [hG2, hyr] at this
          simpa using this
        have hmem : ∀ z ∈ G2, z ∈ d :: D1 := fun z hz => by rw [hspl]; simp [hz]
        have hyD : y ∈ d :: D1 := hmem y (by rw [hyr]; simp)
        have hyj : j ≤ hd y := by
          rcases List.mem_cons.1 hyD with rfl | h'
          · omega
          · exact hle y h'
        have hs2 : Srt G2 := by rw [hspl] at hsrtD; exact (List.pairwise_append.1 hsrtD).2.1
        rw [hyr] at hx hs2
        rcases List.mem_cons.1 hx with rfl | hx
        · omega
        · have := srt_heads (hne y (by rw [e]; exact List.mem_append.2 (.inr hyD))) ((List.pairwise_cons.1 hs2).1 x hx)
          omega
      have hdj : after j done = [] := after_none done fun x hx e' => by
        have := hsep x hx d (by simp)
        omega
      have hgt : G1.map List.tail = after j G1 := group_tails G1 (fun x hx => hne x (hpG x hx)) h1
      have hg2 : after j G2 = [] := after_none G2 fun x hx e' => by have := h2 x hx; omega
      have hAj : after j A = after j G1 := by rw [e, hspl, after_append, after_append, hdj, hg2]; simp
      have hAne : after j A ≠ [] := by
        rw [hAj]
        cases d with
        | nil => exact absurd rfl (hne _ hdA)
        | cons c t =>
          have hc : c = j := by simpa [hd] using hj
          subst hc
          exact List.ne_nil_of_mem (mem_after.2 hd1)
      obtain ⟨ls', q1, q2, qk, q3, q4, q5, q6⟩ := hbh j hj36 hAne kn ls h.g
      rw [hgt, ← hAj]
      have hother : ∀ i, i ≠ j → after i (done ++ G1) = after i done := fun i hi => by
        rw [after_append, after_none G1 fun x hx e' => hi (by rw [← e', h1 x hx]), List.append_nil]
      have hthis : after j (done ++ G1) = after j A := by rw [after_append, hdj, hAj]; rfl
      have hll : ls.length ≤ ls'.length := q2.length_le
      refine grp_spec bh A ls0 kn0 hA hne h36 hbh g (done ++ G1) G2 _ _ ls' (by rw [e, hspl, List.append_assoc]) ?_ ?_ ⟨q1, h.pre.trans q2, h.prk.trans qk, by rw [List.length_set]; exact h.len, ?_, ?_, ?_⟩
      · have : (d :: D1).length = G1.length + G2.length := by rw [hspl, List.length_append]
        have h3 : 0 < G1.length := List.length_pos_of_mem hd1
        omega
      · intro x hx y hy
        rcases List.mem_append.1 hx with hx | hx
        · exact hsep x hx y (by rw [hspl]; simp [hy])
        · rw [h1 x hx]; exact h2 y hy
      · intro i
        rw [getD_set _ _ _ _ (by rw [h.len]; exact hj36)]
        split
        · exact q4
        · have := h.le i; omega
      · intro i hi
        rw [getD_set _ _ _ _ (by rw [h.len]; exact hj36)]
        by_cases hij : i = j
        · rw [if_pos hij, hij, q5, hthis]
        · rw [if_neg hij, lsAt_pre q2 _ (h.le i), h.at' i hi, hother i hij]
      · intro R
        rw [q6, h.mem]
        constructor
        · rintro ((h0 | ⟨i, q, t, h3, h4, h5⟩) | ⟨p, x, h3, h4, h5⟩)
          · exact .inl h0
          · refine .inr ⟨i, q, t, List.mem_append.2 (.inl h3), h4, ?_⟩
            have hij : i ≠ j := fun e' => by
              subst e'
              have := mem_after.2 h3
              rw [hdj] at this; simp at this
            rw [hother i hij]; exact h5
          · refine .inr ⟨j, p, x, List.mem_append.2 (.inr ?_), h4, by rw [hthis]; exact h5⟩
            rw [hAj] at h3
            exact mem_after.1 h3
        · rintro (h0 | ⟨i, q, t, h3, h4, h5⟩)
          · exact .inl (.inl h0)
          · by_cases hij : i = j
            · subst hij
              refine .inr ⟨q, t, ?_, h4, by rw [← hthis]; exact h5⟩
              rw [← hthis]; exact mem_after.2 h3
            · refine .inl (.inr ⟨i, q, t, ?_, h4, by rw [← hother i hij]; exact h5⟩)
              rcases List.mem_append.1 h3 with h3 | h3
              · exact h3
              · exact absurd (by simpa [hd] using h1 _ h3) hij

/-- THE BUILDER: one state for each list of endings. -/
theorem beh_spec : ∀ (f : Nat) (D : List Wd), D ≠ [] → Srt D → (∀ d ∈ D, d.length < f) → (∀ d ∈ D, ∀ c ∈ d, c < 36) → ∀ kn ls, G kn ls → Beh D kn ls (beh f D kn)
  | 0, D, hne, _, hl, _, _, _, _ => by
    cases D with
    | nil => exact absurd rfl hne
    | cons d r => exact absurd (hl d (by simp)) (by omega)
  | f + 1, D, hne, hs, hl, hc, kn, ls, hG => by
    obtain ⟨d, D1, rfl⟩ : ∃ d D1, D = d :: D1 := by
      cases D with
      | nil => exact absurd rfl hne
      | cons d D1 => exact ⟨d, D1, rfl⟩
    have hp := List.pairwise_cons.1 hs
    unfold beh
    simp only [List.headD_cons, List.tail_cons]
    generalize hends : d.isEmpty = ends
    generalize hD' : (bif ends then D1 else d :: D1) = D'
    have hsub : List.Sublist D' (d :: D1) := by
      rw [← hD']; cases ends
      · exact List.Sublist.refl _
      · exact List.sublist_cons_self d D1
    have hs' : Srt D' := List.Pairwise.sublist hsub hs
    have hne' : ∀ x ∈ D', x ≠ [] := by
      intro x hx
      rw [← hD'] at hx
      cases he : ends with
      | true =>
        rw [he] at hx
        have hd0 : d = [] := by rw [he] at hends; simpa using hends
        have := hp.1 x (by simpa using hx)
        rw [hd0] at this
        intro e; rw [e] at this; exact this
      | false =>
        rw [he] at hx
        simp only [cond_false] at hx
        have hd0 : d ≠ [] := by intro e; rw [he, e] at hends; simp at hends
        rcases List.mem_cons.1 hx with rfl | hx
        · exact hd0
        · intro e
          have := hp.1 x hx
          rw [e] at this
          cases d with
          | nil => exact hd0 rfl
          | cons a b => exact this
    have h36 : ∀ x ∈ D', hd x < 36 := by
      intro x hx
      have hx0 := hne' x hx
      cases x with
      | nil => exact absurd rfl hx0
      | cons a b => exact hc (a :: b) (hsub.subset hx) a (by simp)
    have haft : ∀ j, after j D' = after j (d :: D1) := by
      intro j
      rw [← hD']
      cases he : ends with
      | true =>
        have hd0 : d = [] := by rw [he] at hends; simpa using hends
        rw [hd0]; rfl
      | false => rfl
    obtain ⟨ls1, q⟩ := grp_spec (beh f) D' ls kn hs' hne' h36 (fun j hj hn kn ls hg => by
        refine beh_spec f (after j D') hn (srt_after D' hs') (fun x hx => ?_) (fun x hx c hcx => ?_) kn ls hg
        · have := hl (j :: x) (hsub.subset (mem_after.1 hx))
          simp at this; omega
        · exact hc (j :: x) (hsub.subset (mem_after.1 hx)) c (by simp [hcx]))
      D'.length [] D' (List.replicate 36 0) kn ls rfl (Nat.le_refl _) (by simp)
      ⟨hG, List.prefix_refl _, List.prefix_refl _, by simp, fun j => by rw [List.getD_eq_getElem?_getD, List.getElem?_replicate]; split <;> simp, fun j hj => by
        rw [List.getD_eq_getElem?_getD, List.getElem?_replicate, if_pos hj]; rfl, fun R => by simp⟩
    generalize hr : grp (beh f) D'.length D' (List.replicate 36 0) kn = r at q
    have hlang : lang ls1 ⟨ends, r.1⟩ = d :: D1 := by
      unfold lang
      have hfl : (List.range 36).flatMap (fun j => (lsAt ls1 (r.1.getD j 0)).map (j :: ·)) = (List.range 36).flatMap (fun j => (after j D').map (j :: ·)) := by
        rw [List.flatMap_def, List.flatMap_def]
        congr 1
        exact List.map_congr_left fun j hj => by rw [q.at' j (List.mem_range.1 hj)]
      show (if ends = true then [[]] else []) ++ _ = _
      rw [hfl, flat_sorted 36 D' (hs'.imp_of_mem fun ha _ h => srt_heads (hne' _ ha) h) hne' h36, ← hD']
      cases he : ends with
      | true =>
        have hd0 : d = [] := by rw [he] at hends; simpa using hends
        simp [hd0]
      | false => simp
    obtain ⟨ls', p1, p2, pk, p3, p4, p5, p6⟩ := stOf_spec q.g ⟨ends, r.1⟩ q.len q.le (by rw [hlang]; simp)
    rw [hlang] at p5 p6
    refine ⟨ls', p1, q.pre.trans p2, q.prk.trans pk, p3, p4, p5, fun R => ?_⟩
    rw [p6, q.mem]
    constructor
    · rintro ((h0 | ⟨j, k, t, h1, h2, h3⟩) | h0)
      · exact .inl h0
      · refine .inr ⟨j :: k, j :: t, hsub.subset h1, ?_, by rw [res_cons, ← haft]; exact h3⟩
        obtain ⟨m, rfl⟩ := h2
        exact ⟨m, rfl⟩
      · exact .inr ⟨[], d, by simp, List.nil_prefix, by rw [res_nil]; exact h0⟩
    · rintro (h0 | ⟨p, x, h1, h2, h3⟩)
      · exact .inl (.inl h0)
      · cases p with
        | nil => rw [res_nil] at h3; exact .inr h3
        | cons j k =>
          obtain ⟨m, rfl⟩ := h2
          rw [res_cons, ← haft] at h3
          refine .inl (.inr ⟨j, k, k ++ m, ?_, ⟨m, rfl⟩, h3⟩)
          have : k ++ m ∈ after j D' := by rw [haft]; exact mem_after.2 h1
          exact mem_after.1 this
end Go.Proofs.YtpdoacfiiledcaaGreatDoor.St

