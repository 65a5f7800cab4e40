import Derived.Test.YtpdoacfiiledcaaPakN
import Derived.Sort.Walk0
namespace Go.Proofs.Ytpdoacfiiledcaa.Pak
open Go.RowKit Go.Proofs.Ytpdoacfiiledcaa SiftM
set_option linter.unusedVariables false

def isNextF (terms : List (List UInt8)) (t : List UInt8) : Bool := decide (terms.length = 0) || decide (terms.getD (terms.length - 1) [] < t)

theorem strs_cells {w : World} {base n g cap : Nat} {l : List (List UInt8)} (h : w.ownsRow base 9 1 (.slice (some ⟨g, 0, none⟩) n cap) n (strV l)) (hl : l.length = n) : ∀ i (hi : i < l.length), w.cell? ⟨g, i, none⟩ = some (.string ⟨l[i].toArray⟩) := by
  intro i hi
  have := h.cells (g := g) rfl i (.string ⟨l[i].toArray⟩) (by simp [strV, hi])
  have e : (⟨g, 0, none⟩ : Addr).add i = ⟨g, i, none⟩ := by unfold Addr.add; split <;> simp_all
  rwa [e] at this

set_option maxHeartbeats 400000 in
set_option maxRecDepth 100000 in
theorem next_tb (T B M c : Nat) (ids : List Nat) (terms : List (List UInt8)) (f : Nat → Nat → Option Nat) (iv tv : Value) (s : List UInt8) (w : World) (ht : Tabl w T B ids terms M c f iv tv) (hl : terms.length ≤ 100000) :
    Calls Try.prog 76 #[.string ⟨s.toArray⟩, tv] w fun e w' => e = .returned (.bool (isNextF terms s)) ∧ w' = w := by
  obtain ⟨b0, b1, b2, fz0, fz1, fz2⟩ := tb_cells ht.blk
  obtain ⟨a, cap, e1, ha⟩ := owns_forms ht.terms
  subst e1
  by_cases h0 : terms.length = 0
  · have e : Hid (isNextF terms s = true) := by show _ = _; simp [isNextF, h0]
    rw [h0]
    clear ht b0 b1 b2 fz0 fz1 fz2
    go_enter Try.func76, Try.ntmps76
    go_wp2_with fail
    go_ret
    exact ⟨ret_bool e.out.symm, rfl⟩
  · obtain ⟨g, rfl⟩ := ha (by omega)
    have hc := strs_cells ht.terms rfl (terms.length - 1) (by omega)
    have hget : terms.getD (terms.length - 1) [] = terms[terms.length - 1] := by rw [List.getD_eq_getElem?_getD, List.getElem?_eq_getElem (by omega)]; rfl
    have e : Hid (isNextF terms s = decide (terms[terms.length - 1] < s)) := by show _ = _; unfold isNextF; rw [hget]; simp [h0]
    obtain ⟨n, hn⟩ : ∃ n, terms.length = n := ⟨_, rfl⟩
    obtain ⟨x, hx⟩ : ∃ x, terms[terms.length - 1] = x := ⟨_, rfl⟩
    rw [hx] at hc e
    rw [hn] at hc hl h0 ⊢
    have hn1 : ((n : Int) - 1).toNat = n - 1 := by omega
    clear ht hx hn hget b0 b1 b2 fz0 fz1 fz2
    go_enter Try.func76, Try.ntmps76
    go_wp2_with fail
    go_ret
    have hn0 : ((n : Int) == 0) = false := by simp; omega
    exact ⟨ret_bool (by rw [e.out, ← Go.Proofs.bytesLess_eq]; simp [hn0]), rfl⟩

/-- What one doc of a term gives: how far the docs have come; the entries. -/
def docStep (tix N : Nat) (s : Nat × PS) : Nat × PS :=
  (s.1 + (numF s.2.2.2 0 ((N : Int) - 1 - s.1)).1 + 1, placesF tix (s.1 + (numF s.2.2.2 0 ((N : Int) - 1 - s.1)).1) s.2.1 s.2.2.1 (numF s.2.2.2 0 ((N : Int) - 1 - s.1)).2)
def docN (tix N : Nat) (s : Nat × PS) : Nat → Nat × PS
  | 0 => s
  | k + 1 => docStep tix N (docN tix N s k)
abbrev TS := List (List UInt8) × PS
/-- The reader behind a term. -/
def stTerm (terms : List (List UInt8)) (st : Option (List UInt8)) : Option (List UInt8) :=
  if isWord (textF (numF st 1 8).2 (numF st 1 8).1).1 && isNextF terms (textF (numF st 1 8).2 (numF st 1 8).1).1 then (textF (numF st 1 8).2 (numF st 1 8).1).2 else none
def termF (N : Nat) (s : TS) : TS :=
  (s.1 ++ [(textF (numF s.2.2.2 1 8).2 (numF s.2.2.2 1 8).1).1],
   (docN s.1.length N (0, s.2.1, s.2.2.1, (numF (stTerm s.1 s.2.2.2) 1 N).2) (numF (stTerm s.1 s.2.2.2) 1 N).1).2)
theorem placesF_c (tix doc c : Nat) (f : Nat → Nat → Option Nat) (st : Option (List UInt8)) : (placesF tix doc c f st).1 ≤ c + 60 := by
  unfold placesF
  have h := plStep_c tix doc (c, f, (riseN 59 (numF st 1 60).2 (numF st 1 60).1).2.2) (riseN 59 (numF st 1 60).2 (numF st 1 60).1).1
  rw [riseN_len] at h
  have h2 := numF_le st 1 60
  simp only at h
  exact Nat.le_trans h (Nat.add_le_add_left h2 c)
theorem docN_c (tix N : Nat) (s : Nat × PS) : ∀ k, (docN tix N s k).2.1 ≤ s.2.1 + 60 * k
  | 0 => by simp [docN]
  | k + 1 => by
    have h := docN_c tix N s k
    have h2 := placesF_c tix ((docN tix N s k).1 + (numF (docN tix N s k).2.2.2 0 ((N : Int) - 1 - (docN tix N s k).1)).1) (docN tix N s k).2.1 (docN tix N s k).2.2.1 (numF (docN tix N s k).2.2.2 0 ((N : Int) - 1 - (docN tix N s k).1)).2
    simp only [docN, docStep]
    omega
theorem docN_le (tix N : Nat) (s : Nat × PS) (h0 : s.1 = 0) (k : Nat) : (docN tix N s k).1 ≤ k * 268435456 := by
  induction k with
  | zero => simp [docN, h0]
  | succ k ih =>
    have h2 := numF_lt (docN tix N s k).2.2.2 0 ((N : Int) - 1 - (docN tix N s k).1)
    simp only [docN, docStep]
    rw [Nat.succ_mul]
    exact Nat.succ_le_of_lt (Nat.add_lt_add_of_le_of_lt ih h2)
end Go.Proofs.Ytpdoacfiiledcaa.Pak
