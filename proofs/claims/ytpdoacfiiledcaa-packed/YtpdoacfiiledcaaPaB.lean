import Derived.Test.YtpdoacfiiledcaaPaA
import Derived.Laws.AppendOwnNone
namespace Go.Proofs.Ytpdoacfiiledcaa.Pak
open Go.RowKit Go.Proofs.Ytpdoacfiiledcaa SiftM
set_option linter.unusedVariables false

/-- append of all of another list. -/
theorem wpList_append_src {P : Program} (w : World) {ops : Array Oper} {rest : List Oper} {o : Oper} {a : Act} {Q : Exit → Act → World → Prop} (hgd : o.guard = none) (s x : Operand) (t : TypeId)
    (ho : o.op = .call { callee := .builtin .append, args := #[s, x], argTypes := #[t, t] })
    (base : Nat) (e : TypeId) (i : TypeInfo) (z : Value) (size bytes : Nat) (ht : P.underlying t = some (.slice e)) (hi : P.info? e = some i) (hz : i.zero = some z)
    (hsize : i.size = size) (hby : i.bytes = bytes) (hzs : z.cells.size = size) (hsz : 0 < size)
    (v : Value) (n : Nat) (xs : List Value) (hs : a.eval s = v) (hown : w.ownsRow base e size v n xs)
    (xv : Value) (base' m : Nat) (news : List Value) (hx : a.eval x = xv) (hsrc : w.ownsRow base' e size xv m news) (h1 : ∀ u ∈ news, u.oneCell' = true)
    (h63 : n + m ≤ maxLen) (hbytes : (n + m) * bytes ≤ 140737488355328) (hbase : base ≤ w.heap.size)
    (h : ∀ v' w', w'.ownsRow base e size v' (n + m) (xs ++ news) → w.grownBy w' v.ownBlock → (v'.ownBlock = v.ownBlock ∨ v'.ownBlock = some w.heap.size) → wpList P ops Q rest (a.put o.dst v') w') :
    wpList P ops Q (o :: rest) a w := by
  rcases hsrc.2 with ⟨rfl, rfl⟩ | ⟨g, cap, cur, rfl, hb, hg, rest'⟩
  · have hn : news = [] := List.eq_nil_of_length_eq_zero (by simpa using hsrc.1)
    subst hn
    refine wpList_append_own_none hgd s x t ho base e i size ht hi v n xs hs hown hx ?_
    exact h v w (by simpa using hown) (World.grownBy.refl _ _) (.inl rfl)
  · refine wpList_append_own_at w hgd s x t ho base e i z size bytes ht hi hz hsize hby hzs hsz v n xs hs hown ⟨g, 0, none⟩ m cap news hx hsrc.1 (hsrc.cells (g := g) rfl) h1 h63 hbytes hbase ?_
    intro v' w' h1 h2 _ h3
    exact h v' w' h1 h2 h3

def allW : List Tx → List (List UInt8)
  | [] => []
  | t :: r => t.2 ++ allW r
theorem allW_snoc : ∀ (T : List Tx) (t : Tx), allW (T ++ [t]) = allW T ++ t.2
  | [], t => by simp [allW]
  | x :: r, t => by simp [allW, allW_snoc r t]
def termsOf (T : List Tx) : List (List UInt8) := Lib.compact ((allW T).mergeSort fun x y => decide (x ≤ y))
def bsIx (terms : List (List UInt8)) (x : List UInt8) : Nat := Lib.bsGo (fun t => Op.bytesLess (terms.getD t []) x) terms.length 0 terms.length
def rowsOf (T : List Tx) : List (List Nat) := T.map fun t => t.2.map (bsIx (termsOf T))
/-- What the map says: the words of the docs ahead of d, and k of doc d. -/
def upTo (rows : List (List Nat)) (d k : Nat) : Nat → Nat → Option Nat := fun d' p' => if d' < d ∨ d' = d ∧ p' < k then (rows[d']?).bind (·[p']?) else none
def cntTo (rows : List (List Nat)) : Nat → Nat
  | 0 => 0
  | d + 1 => cntTo rows d + (rows.getD d []).length
theorem upTo_zero (rows : List (List Nat)) : upTo rows 0 0 = no := by
  funext d p; simp [upTo, no]
theorem upTo_put (rows : List (List Nat)) (d k : Nat) (hd : d < rows.length) (hk : k < rows[d].length) : putAt (upTo rows d k) d k rows[d][k] = upTo rows d (k + 1) := by
  funext d' p'
  unfold putAt upTo
  by_cases e : d' = d ∧ p' = k
  · obtain ⟨rfl, rfl⟩ := e
    simp [hd, hk]
  · rw [if_neg e]
    by_cases h1 : d' < d ∨ d' = d ∧ p' < k
    · rw [if_pos h1, if_pos (by omega)]
    · rw [if_neg h1, if_neg (by omega)]
theorem upTo_next (rows : List (List Nat)) (d : Nat) (hd : d < rows.length) : upTo rows d rows[d].length = upTo rows (d + 1) 0 := by
  funext d' p'
  unfold upTo
  by_cases h1 : d' < d ∨ d' = d ∧ p' < rows[d].length
  · rw [if_pos h1, if_pos (by omega)]
  · rw [if_neg h1]
    by_cases h2 : d' < d + 1 ∨ d' = d + 1 ∧ p' < 0
    · have e : d' = d := by omega
      subst e
      rw [if_pos h2]
      simp [hd]
      omega
    · rw [if_neg h2]
theorem upTo_free (rows : List (List Nat)) (d k : Nat) : (upTo rows d k d k).isSome = false := by simp [upTo]
theorem words_oneCell (l : List (List UInt8)) : ∀ u ∈ strV l, u.oneCell' = true := by
  intro u hu
  simp [strV] at hu
  obtain ⟨x, _, rfl⟩ := hu
  rfl
end Go.Proofs.Ytpdoacfiiledcaa.Pak
