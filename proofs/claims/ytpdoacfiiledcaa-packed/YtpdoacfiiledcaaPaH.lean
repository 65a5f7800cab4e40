import Derived.Test.YtpdoacfiiledcaaPaG
import Derived.Test.YtpdoacfiiledcaaPaB
namespace Go.Proofs.Ytpdoacfiiledcaa.Pak
open Go.RowKit Go.Proofs.Ytpdoacfiiledcaa SiftM
set_option linter.unusedVariables false

theorem spot_any (base d p : Nat) (v : Value) (P : List Po) (pvs : List Value) (w : World) (h : PostIs w base v P pvs) (hn : P.length ≤ 100000) (hps : ∀ l ∈ P, l.2.length ≤ 100000) (hb : base ≤ w.heap.size) (hd : d ≤ 1000000) (hp : p ≤ 1000000) :
    Calls Try.prog 50 #[v, .agg #[.int .i64 d, .int .i64 p]] w (SpotPost w base v P pvs d p) := by
  cases hg : P.getLast? with
  | none =>
    have hP : P = [] := by simpa using hg
    refine spot_new base d p v P pvs w h (by simp [wsF, hP]) (fun l hl => by rw [hg] at hl; simp at hl) hn hb hd hp
  | some l =>
    by_cases e : l.1 = d
    · have hne : P ≠ [] := by intro e; subst e; simp at hg
      have hP : P = P.dropLast ++ [l] := by
        have h1 := List.dropLast_concat_getLast hne
        rw [List.getLast?_eq_some_getLast hne] at hg
        simp at hg
        rw [hg] at h1
        exact h1.symm
      have hpne : pvs ≠ [] := by
        intro e; have := h.len; rw [e] at this; simp at this
        exact hne (List.eq_nil_of_length_eq_zero this.symm)
      have hpv := (List.dropLast_concat_getLast hpne).symm
      have hw : wsF P d p = P.dropLast ++ [(d, l.2 ++ [p])] := by simp [wsF, hg, e]
      have hl : l = (d, l.2) := by rw [← e]
      have hmem : l ∈ P := by rw [hP]; simp
      have hlen := congrArg List.length hP
      simp at hlen
      have := spot_old base d p v P.dropLast l.2 pvs.dropLast (pvs.getLast hpne) w (by rw [← hl, ← hP, ← hpv]; exact h) (by simp; omega) (hps l hmem) hb hd hp
      rw [← hpv] at this
      unfold SpotPost
      rw [hw]
      exact this
    · exact spot_new base d p v P pvs w h (by simp [wsF, hg, e]) (fun l' hl' => by rw [hg] at hl'; simp at hl'; subst hl'; exact e) hn hb hd hp

def upd {α : Type} (F : Nat → α) (t : Nat) (x : α) : Nat → α := fun t' => if t' = t then x else F t'
/-- The lists of postings, term by term. -/
structure ListsIs (w : World) (base Lb nt : Nat) (vF : Nat → Value) (PF : Nat → List Po) (pF : Nat → List Value) : Prop where
  blk : w.heap[Lb]? = some (.cells ((List.range nt).map vF).toArray 75 (0, 0))
  each : ∀ t, t < nt → PostIs w base (vF t) (PF t) (pF t)
  disj : ∀ t t', t < nt → t' < nt → t ≠ t' → ∀ x ∈ foot (vF t) (pF t), x ∉ foot (vF t') (pF t')
/-- What k places of a row of doc d add. -/
def PFr (F : Nat → List Po) (d : Nat) (r : List Nat) : Nat → Nat → List Po
  | 0 => F
  | k + 1 => upd (PFr F d r k) (r.getD k 0) (wsF (PFr F d r k (r.getD k 0)) d k)
def PFd (rows : List (List Nat)) : Nat → Nat → List Po
  | 0 => fun _ => []
  | d + 1 => PFr (PFd rows d) d (rows.getD d []) (rows.getD d []).length

theorem foot_ne {w : World} {base R : Nat} {v : Value} {P : List Po} {pvs : List Value} {cs : Array Value} {t : TypeId} {fr : Nat × Nat} (h : PostIs w base v P pvs) (hR : w.heap[R]? = some (.cells cs t fr)) (h1 : t ≠ 103) (h2 : t ≠ 3) : R ∉ foot v pvs := by
  intro hx
  simp only [foot, List.mem_append, List.mem_flatMap] at hx
  rcases hx with hx | ⟨u, hu, hx⟩
  · exact owns_ne h.row hR h1 (by simpa using hx)
  · obtain ⟨i, hi, rfl⟩ := List.getElem_of_mem hu
    exact owns_ne (h.each i (by rw [← h.len]; exact hi) hi) hR h2 (by simpa using hx)
theorem foot_ne_map {w : World} {base M c : Nat} {f : Nat → Nat → Option Nat} {v : Value} {P : List Po} {pvs : List Value} (h : PostIs w base v P pvs) (hM : MapIs w M c f) : M ∉ foot v pvs := by
  intro hx
  simp only [foot, List.mem_append, List.mem_flatMap] at hx
  rcases hx with hx | ⟨u, hu, hx⟩
  · exact owns_ne_map h.row hM (by simpa using hx)
  · obtain ⟨i, hi, rfl⟩ := List.getElem_of_mem hu
    exact owns_ne_map (h.each i (by rw [← h.len]; exact hi) hi) hM (by simpa using hx)
theorem ListsIs.kp {S : List Nat} {w w' : World} {base Lb nt : Nat} {vF : Nat → Value} {PF : Nat → List Po} {pF : Nat → List Value} (h : ListsIs w base Lb nt vF PF pF) (k : Kp S w w') (hL : Lb ∉ S) (hS : ∀ t, t < nt → ∀ x ∈ S, x ∉ foot (vF t) (pF t)) : ListsIs w' base Lb nt vF PF pF :=
  ⟨k.heap h.blk hL, fun t ht => (h.each t ht).kp k (hS t ht), h.disj⟩

/-- The lists behind a spot of term t. -/
theorem ListsIs.spot {w w1 : World} {base Lb nt t : Nat} {vF : Nat → Value} {PF : Nat → List Po} {pF : Nat → List Value} {v' : Value} {P' : List Po} {pvs' : List Value} (h : ListsIs w base Lb nt vF PF pF) (ht : t < nt) (hp : PostIs w1 base v' P' pvs') (k : Kp (foot (vF t) (pF t)) w w1) (hf : ∀ x ∈ foot v' pvs', x ∈ foot (vF t) (pF t) ∨ w.heap.size ≤ x) :
    ListsIs (w1.setCell ⟨Lb, t, none⟩ v') base Lb nt (upd vF t v') (upd PF t P') (upd pF t pvs') := by
  have hLf : Lb ∉ foot (vF t) (pF t) := foot_ne (h.each t ht) h.blk (by decide) (by decide)
  have hb1 := k.heap h.blk hLf
  have ks : Kp [Lb] w1 (w1.setCell ⟨Lb, t, none⟩ v') := (Kp.refl _ _).setCell (.inl (by simp)) _
  have heach : ∀ t', t' < nt → PostIs w1 base (upd vF t v' t') (upd PF t P' t') (upd pF t pvs' t') := by
    intro t' ht'
    unfold upd
    by_cases e : t' = t
    · simp only [e, if_true]; exact hp
    · simp only [e, if_false]
      exact (h.each t' ht').kp k (h.disj t t' ht ht' (Ne.symm e))
  refine ⟨?_, ?_, ?_⟩
  · rw [heap_setCell_same w1 Lb t _ 75 v' hb1]
    congr 2
    rw [List.setIfInBounds_toArray]
    congr 1
    apply List.ext_getElem?
    intro i
    rw [List.getElem?_set]
    by_cases e : t = i
    · subst e
      simp [ht, upd]
    · rw [if_neg e]
      simp only [List.getElem?_map]
      by_cases hi : i < nt
      · simp [hi, upd, Ne.symm e]
      · simp [hi]
  · intro t' ht'
    refine (heach t' ht').kp ks (fun x hx => ?_)
    simp at hx; subst hx
    exact foot_ne (heach t' ht') hb1 (by decide) (by decide)
  · intro a b ha hb hab x hx
    unfold upd at hx ⊢
    by_cases ea : a = t
    · subst ea
      simp only [if_true] at hx
      simp only [Ne.symm hab, if_false]
      rcases hf x hx with h1 | h1
      · exact h.disj a b ha hb hab x h1
      · intro h2
        have := ((h.each b hb).foot_lt x h2).2
        omega
    · simp only [ea, if_false] at hx
      by_cases eb : b = t
      · subst eb
        simp only [if_true]
        intro h2
        rcases hf x h2 with h1 | h1
        · exact h.disj a b ha hb hab x hx h1
        · have := ((h.each a ha).foot_lt x hx).2
          omega
      · simp only [eb, if_false]
        exact h.disj a b ha hb hab x hx
end Go.Proofs.Ytpdoacfiiledcaa.Pak
