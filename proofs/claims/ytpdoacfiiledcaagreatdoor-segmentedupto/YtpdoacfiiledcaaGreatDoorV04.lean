import Derived.Test.YtpdoacfiiledcaaGreatDoorV03
import Derived.Test.YtpdoacfiiledcaaGreatDoorV02
import Derived.Deep.AppendLies
import Derived.Deep.RegionLaw
import Derived.Deep.RegionHeld3
import Derived.Stop.BytesEq
import Derived.BigQuiet
import Derived.Deep.QuietTactic
import Derived.Laws.AppendOwnNone
namespace Go.Proofs.YtpdoacfiiledcaaGreatDoor.Pak
open Go.RowKit Go.Proofs.YtpdoacfiiledcaaGreatDoor Go.Proofs.YtpdoacfiiledcaaGreatDoor.Spl SiftM Go.Sort
set_option linter.unusedVariables false

theorem put_heap {α : Type} [Inhabited α] (enc : α → Value) (w : World) (g m : Nat) (d : Array α) (os : Array Obj) {cur : Array Value} {e : TypeId} {fr : Nat × Nat} (hg : w.heap[g]? = some (.cells cur e fr)) :
    (Sort.grow (Sort.putRow enc (Sort.ahead w m) g 0 d) os).heap[g]? = some (.cells (Sort.putCells enc 0 d cur) e fr) := by
  have hlt := heap_lt hg
  rw [Sort.heap_grow_old _ _ (by simpa using hlt)]
  simp only [Sort.putRow, Sort.mapBlock, Sort.ahead, Array.getElem?_modify, if_true, hg, Option.map_some, Sort.onCells]
theorem put_kp {α : Type} [Inhabited α] (enc : α → Value) (w : World) (g m : Nat) (d : Array α) (os : Array Obj) : Kp [g] w (Sort.grow (Sort.putRow enc (Sort.ahead w m) g 0 d) os) := by
  refine ⟨rfl, rfl, rfl, by simp [Sort.ahead], fun k hk hn => ?_⟩
  rw [Sort.heap_grow_old _ _ (by simpa [Sort.ahead] using hk)]
  simp only [Sort.putRow, Sort.mapBlock, Sort.ahead, Array.getElem?_modify]
  rw [if_neg (by simp at hn; omega)]
theorem putCells_take {α : Type} [Inhabited α] (enc : α → Value) (d : Array α) (cur : Array Value) (h : d.size ≤ cur.size) : (Sort.putCells enc 0 d cur).toList.take d.size = d.toList.map enc := by
  apply List.ext_getElem?
  intro i
  rw [List.getElem?_take]
  by_cases hi : i < d.size
  · rw [if_pos hi]
    have hc : i < cur.size := by omega
    rw [Array.getElem?_toList]
    simp only [Sort.putCells, Array.getElem?_mapIdx, Array.getElem?_eq_getElem hc, Option.map_some, Nat.zero_le, Nat.zero_add, hi, and_self, if_true, Nat.sub_zero]
    simp [hi]
  · rw [if_neg hi]
    symm
    exact List.getElem?_eq_none (by simp; omega)
/-- A row behind the library's sorts. -/
theorem put_owns {α : Type} [Inhabited α] (enc : α → Value) {w : World} {base g n cap size : Nat} {e : TypeId} {xs : List Value} (h : w.ownsRow base e size (.slice (some ⟨g, 0, none⟩) n cap) n xs) (d : Array α) (hd : d.size = n * size) (m : Nat) (os : Array Obj) :
    (Sort.grow (Sort.putRow enc (Sort.ahead w m) g 0 d) os).ownsRow base e size (.slice (some ⟨g, 0, none⟩) n cap) n (d.toList.map enc) := by
  rcases h.2 with ⟨e1, _⟩ | ⟨g', cap', cur, e1, hb, hg, hn, hcm, hcs, ht⟩
  · simp at e1
  · simp at e1
    obtain ⟨rfl, rfl⟩ := e1
    refine ⟨by simp [hd], .inr ⟨g, cap, _, rfl, hb, put_heap enc w g m d os hg, hn, hcm, by simp [Sort.putCells, hcs], ?_⟩⟩
    rw [← hd]
    exact putCells_take enc d cur (by rw [hd, hcs]; exact Nat.mul_le_mul_right _ hn)
theorem owns_shrink {w : World} {base g n n' cap size : Nat} {e : TypeId} {xs : List Value} (h : w.ownsRow base e size (.slice (some ⟨g, 0, none⟩) n cap) n xs) (hn : n' ≤ n) : w.ownsRow base e size (.slice (some ⟨g, 0, none⟩) n' cap) n' (xs.take (n' * size)) := by
  rcases h.2 with ⟨e1, _⟩ | ⟨g', cap', cur, e1, hb, hg, hn', hcm, hcs, ht⟩
  · simp at e1
  · simp at e1
    obtain ⟨rfl, rfl⟩ := e1
    have hm : n' * size ≤ n * size := Nat.mul_le_mul_right _ hn
    refine ⟨by rw [List.length_take, h.1]; omega, .inr ⟨g, cap, cur, rfl, hb, hg, by omega, hcm, hcs, ?_⟩⟩
    rw [← ht, List.take_take, Nat.min_eq_left hm]

end Go.Proofs.YtpdoacfiiledcaaGreatDoor.Pak

namespace Go.Proofs.YtpdoacfiiledcaaGreatDoor.Pak
open Go.RowKit Go.Proofs.YtpdoacfiiledcaaGreatDoor Go.Proofs.YtpdoacfiiledcaaGreatDoor.Spl SiftM
set_option linter.unusedVariables false

def tx2 (xs : List (Nat × Value)) : List Value := xs.flatMap fun x => [Value.int .i64 (x.1 : Int), x.2]
def z2 : Nat → List Value
  | 0 => []
  | n + 1 => .int .i64 0 :: .slice none 0 0 :: z2 n
theorem tx2_len (xs : List (Nat × Value)) : (tx2 xs).length = xs.length * 2 := by
  induction xs with
  | nil => rfl
  | cons x r ih => simp [tx2] at ih ⊢; omega
theorem tx2_snoc (xs : List (Nat × Value)) (x : Nat × Value) : tx2 (xs ++ [x]) = tx2 xs ++ [.int .i64 (x.1 : Int), x.2] := by simp [tx2]
theorem info52 : (Tryz.prog.info? 226).map (fun i => (i.zero, i.size, i.bytes)) = some (some (.agg #[.int .i64 0, .slice none 0 0]), 2, 32) := by kernel_rfl
/-- A list of texts: v holds T; vs: the lists of their words. -/
structure TextsIs (w : World) (base : Nat) (v : Value) (T : List (Nat × List (List UInt8))) (vs : List Value) : Prop where
  len : vs.length = T.length
  row : w.ownsRow base 226 2 v T.length (tx2 ((T.map Prod.fst).zip vs))
  each : ∀ i (h : i < T.length) (h2 : i < vs.length), w.ownsRow base 9 1 vs[i] T[i].2.length (strV T[i].2)
  apart : ∀ i j (hi : i < vs.length) (hj : j < vs.length), i < j → ∀ g, vs[i].ownBlock = some g → vs[j].ownBlock ≠ some g
end Go.Proofs.YtpdoacfiiledcaaGreatDoor.Pak

namespace Go.Proofs.YtpdoacfiiledcaaGreatDoor.Pak
open Go.RowKit Go.Proofs.YtpdoacfiiledcaaGreatDoor Go.Proofs.YtpdoacfiiledcaaGreatDoor.Spl SiftM
set_option linter.unusedVariables false

/-- The map says these rows. -/
structure RowsAre (f : Nat → Nat → Option Nat) (rows : List (List Nat)) (nt : Nat) : Prop where
  at' : ∀ d (h : d < rows.length) i (hi : i < rows[d].length), f d i = some rows[d][i]
  stop : ∀ d (h : d < rows.length), f d rows[d].length = none
  small : ∀ d (h : d < rows.length), rows[d].length ≤ 1000
  lt : ∀ d (h : d < rows.length), ∀ x ∈ rows[d], x < nt
theorem far_block {w w3 : World} {o o' : Obj} {L : Nat} {row : Option Nat} (hL : w.heap[L]? = some o) (hg : ((w.alloc o').drew).grownBy w3 row) (hne : row ≠ some L) : w3.heap[L]? = some o := by
  rw [hg.block L (by have := heap_lt hL; simp; omega) (fun e => hne e.symm)]
  show (w.alloc o').heap[L]? = _
  rw [Below.heap_alloc _ _ _ (heap_lt hL)]; exact hL

end Go.Proofs.YtpdoacfiiledcaaGreatDoor.Pak

namespace Go.Proofs.YtpdoacfiiledcaaGreatDoor.Pak
open Go.RowKit Go.Proofs.YtpdoacfiiledcaaGreatDoor Go.Proofs.YtpdoacfiiledcaaGreatDoor.Spl SiftM
set_option linter.unusedVariables false

def sumL : List (List UInt8) → Nat
  | [] => 0
  | x :: r => x.length + sumL r
def lenF (ws : List (List UInt8)) : Nat := (ws.length - 1) + sumL ws
end Go.Proofs.YtpdoacfiiledcaaGreatDoor.Pak

namespace Go.Proofs.YtpdoacfiiledcaaGreatDoor.Pak
open Go.RowKit Go.Proofs.YtpdoacfiiledcaaGreatDoor Go.Proofs.YtpdoacfiiledcaaGreatDoor.Spl SiftM
set_option linter.unusedVariables false

abbrev Tx := Nat × List (List UInt8)
theorem tx2_get : ∀ (xs : List (Nat × Value)) (i : Nat) (h : i < xs.length), (tx2 xs)[i * 2]? = some (.int .i64 (xs[i].1 : Int)) ∧ (tx2 xs)[i * 2 + 1]? = some xs[i].2
  | x :: r, 0, h => by simp [tx2]
  | x :: r, i + 1, h => by
    have ih := tx2_get r i (by simpa using h)
    have e : tx2 (x :: r) = .int .i64 (x.1 : Int) :: x.2 :: tx2 r := by simp [tx2]
    rw [e, show (i + 1) * 2 = i * 2 + 2 by omega, show i * 2 + 2 + 1 = i * 2 + 1 + 2 by omega]
    simpa using ih
/-- The cells of a list of texts. -/
theorem TextsIs.cells {w : World} {base g cap n : Nat} {T : List Tx} {vs : List Value} (h : TextsIs w base (.slice (some ⟨g, 0, none⟩) n cap) T vs) (i : Nat) (hi : i < T.length) (h2 : i < vs.length) :
    w.cell? ⟨g, i * 2, none⟩ = some (.int .i64 (T[i].1 : Int)) ∧ w.cell? ⟨g, i * 2 + 1, none⟩ = some vs[i] := by
  have hz : i < ((T.map Prod.fst).zip vs).length := by simp; omega
  have hg := tx2_get ((T.map Prod.fst).zip vs) i hz
  have ea : ∀ j, (⟨g, 0, none⟩ : Addr).add j = ⟨g, j, none⟩ := by intro j; unfold Addr.add; split <;> simp_all
  have c0 := h.row.cells (g := g) rfl _ _ hg.1
  have c1 := h.row.cells (g := g) rfl _ _ hg.2
  rw [ea] at c0 c1
  simp at c0 c1
  exact ⟨c0, c1⟩
theorem TextsIs.kp {S : List Nat} {w w' : World} {base : Nat} {v : Value} {T : List Tx} {vs : List Value} (h : TextsIs w base v T vs) (k : Kp S w w') (hv : ∀ x ∈ S, v.ownBlock ≠ some x) (hvs : ∀ i (h : i < vs.length), ∀ x ∈ S, vs[i].ownBlock ≠ some x) : TextsIs w' base v T vs :=
  ⟨h.len, k.owns h.row (fun g hg hx => hv g hx hg), fun i h1 h2 => k.owns (h.each i h1 h2) (fun g hg hx => hvs i h2 g hx hg), h.apart⟩
theorem TextsIs.kp0 {w w' : World} {base : Nat} {v : Value} {T : List Tx} {vs : List Value} (h : TextsIs w base v T vs) (k : Kp [] w w') : TextsIs w' base v T vs := h.kp k (by simp) (by simp)

end Go.Proofs.YtpdoacfiiledcaaGreatDoor.Pak

namespace Go.Proofs.YtpdoacfiiledcaaGreatDoor.Pak
open Go.RowKit Go.Proofs.YtpdoacfiiledcaaGreatDoor Go.Proofs.YtpdoacfiiledcaaGreatDoor.Spl SiftM
set_option linter.unusedVariables false

def wordsB (b : ByteArray) : List (List UInt8) := sp b.size b.data.toList
theorem TextsIs.nil (w : World) (base : Nat) : TextsIs w base (.slice none 0 0) [] [] := ⟨rfl, World.ownsRow_nil _ _ _ _, fun i h => by simp at h, fun i j h => by simp at h⟩

/-- A list of texts behind an append. -/
theorem TextsIs.snoc {w w2 : World} {base : Nat} {v v' lv : Value} {T : List Tx} {vs : List Value} {id : Nat} {ws : List (List UInt8)} {S : List Nat} (h : TextsIs w base v T vs) (hl : w.ownsRow base 9 1 lv ws.length (strV ws)) (hap : ∀ i (hi : i < vs.length), ∀ g, vs[i].ownBlock = some g → lv.ownBlock ≠ some g)
    (hrow : w2.ownsRow base 226 2 v' (T.length + 1) (tx2 ((T.map Prod.fst).zip vs) ++ [.int .i64 (id : Int), lv])) (k : Kp v.ownBlock.toList w w2) : TextsIs w2 base v' (T ++ [(id, ws)]) (vs ++ [lv]) := by
  have hne : ∀ {n : Nat} {u : Value} {xs : List Value}, w.ownsRow base 9 1 u n xs → ∀ g, u.ownBlock = some g → g ∉ v.ownBlock.toList := by
    intro n u xs hu g hg hx
    have hx' : v.ownBlock = some g := by simpa using hx
    rcases h.row.2 with ⟨rfl, _⟩ | ⟨g', cap, cur, rfl, hb, hgg, rest⟩
    · simp [Value.ownBlock] at hx'
    · simp [Value.ownBlock] at hx'
      subst hx'
      exact owns_ne hu hgg (by decide) hg
  refine ⟨by simp [h.len], ?_, ?_, ?_⟩
  · rw [List.length_append, List.map_append, List.zip_append (by simp [h.len]), show [(id, ws)].map Prod.fst = [id] from rfl, show [id].zip [lv] = [(id, lv)] from rfl, tx2_snoc]
    exact hrow
  · intro i h1 h2
    by_cases e : i < T.length
    · have e2 : i < vs.length := by rw [h.len]; exact e
      rw [List.getElem_append_left e2]
      simp only [List.getElem_append_left e]
      exact k.owns (h.each i e e2) (hne (h.each i e e2))
    · have ei : i = T.length := by simp at h1; omega
      subst ei
      have e2 : (vs ++ [lv])[T.length] = lv := by rw [List.getElem_append_right (by rw [h.len]; omega)]; simp [h.len]
      rw [e2]
      simp only [List.getElem_append_right (Nat.le_refl _), Nat.sub_self, List.getElem_cons_zero]
      exact k.owns hl (hne hl)
  · intro i j hi hj hij g hg
    by_cases e : j < vs.length
    · rw [List.getElem_append_left e]
      rw [List.getElem_append_left (by omega)] at hg
      exact h.apart i j (by omega) e hij g hg
    · have ej : j = vs.length := by simp at hj; omega
      subst ej
      rw [List.getElem_append_left (by omega)] at hg
      have e2 : (vs ++ [lv])[vs.length] = lv := by rw [List.getElem_append_right (Nat.le_refl _)]; simp
      rw [e2]
      exact hap i (by omega) g hg

end Go.Proofs.YtpdoacfiiledcaaGreatDoor.Pak

namespace Go.Proofs.YtpdoacfiiledcaaGreatDoor.Pak
open Go.RowKit Go.Proofs.YtpdoacfiiledcaaGreatDoor Go.Proofs.YtpdoacfiiledcaaGreatDoor.Spl SiftM
set_option linter.unusedVariables false

/-- append of all of another list. -/
theorem wpList_append_src {P : Program} (w : World) {ops : Array Oper} {rest : List Oper} {o : Oper} {a : Act} {Q : Exit → Act → World → Prop} (hgd : o.guard = none) (s x : Operand) (t : TypeId)
    (ho : o.op = .call { callee := .builtin .append, args := #[s, x], argTypes := #[t, t] })
    (base : Nat) (e : TypeId) (i : TypeInfo) (z : Value) (size bytes : Nat) (ht : P.underlying t = some (.slice e)) (hi : P.info? e = some i) (hz : i.zero = some z)
    (hsize : i.size = size) (hby : i.bytes = bytes) (hzs : z.cells.size = size) (hsz : 0 < size)
    (v : Value) (n : Nat) (xs : List Value) (hs : a.eval s = v) (hown : w.ownsRow base e size v n xs)
    (xv : Value) (base' m : Nat) (news : List Value) (hx : a.eval x = xv) (hsrc : w.ownsRow base' e size xv m news) (h1 : ∀ u ∈ news, u.oneCell' = true)
    (h63 : n + m ≤ maxLen) (hbytes : (n + m) * bytes ≤ 140737488355328) (hbase : base ≤ w.heap.size)
    (h : ∀ v' w', w'.ownsRow base e size v' (n + m) (xs ++ news) → w.grownBy w' v.ownBlock → (v'.ownBlock = v.ownBlock ∨ v'.ownBlock = some w.heap.size) → wpList P ops Q rest (a.put o.dst v') w') :
    wpList P ops Q (o :: rest) a w := by
  rcases hsrc.2 with ⟨rfl, rfl⟩ | ⟨g, cap, cur, rfl, hb, hg, rest'⟩
  · have hn : news = [] := List.eq_nil_of_length_eq_zero (by simpa using hsrc.1)
    subst hn
    refine wpList_append_own_none hgd s x t ho base e i size ht hi v n xs hs hown hx ?_
    exact h v w (by simpa using hown) (World.grownBy.refl _ _) (.inl rfl)
  · refine wpList_append_own_at w hgd s x t ho base e i z size bytes ht hi hz hsize hby hzs hsz v n xs hs hown ⟨g, 0, none⟩ m cap news hx hsrc.1 (hsrc.cells (g := g) rfl) h1 h63 hbytes hbase ?_
    intro v' w' h1 h2 _ h3
    exact h v' w' h1 h2 h3

def allW : List Tx → List (List UInt8)
  | [] => []
  | t :: r => t.2 ++ allW r
theorem allW_snoc : ∀ (T : List Tx) (t : Tx), allW (T ++ [t]) = allW T ++ t.2
  | [], t => by simp [allW]
  | x :: r, t => by simp [allW, allW_snoc r t]
def termsOf (T : List Tx) : List (List UInt8) := Lib.compact ((allW T).mergeSort fun x y => decide (x ≤ y))
def bsIx (terms : List (List UInt8)) (x : List UInt8) : Nat := Lib.bsGo (fun t => Op.bytesLess (terms.getD t []) x) terms.length 0 terms.length
def rowsOf (T : List Tx) : List (List Nat) := T.map fun t => t.2.map (bsIx (termsOf T))
/-- What the map says: the words of the docs ahead of d, and k of doc d. -/
def upTo (rows : List (List Nat)) (d k : Nat) : Nat → Nat → Option Nat := fun d' p' => if d' < d ∨ d' = d ∧ p' < k then (rows[d']?).bind (·[p']?) else none
def cntTo (rows : List (List Nat)) : Nat → Nat
  | 0 => 0
  | d + 1 => cntTo rows d + (rows.getD d []).length
theorem upTo_zero (rows : List (List Nat)) : upTo rows 0 0 = no := by
  funext d p; simp [upTo, no]
theorem upTo_put (rows : List (List Nat)) (d k : Nat) (hd : d < rows.length) (hk : k < rows[d].length) : putAt (upTo rows d k) d k rows[d][k] = upTo rows d (k + 1) := by
  funext d' p'
  unfold putAt upTo
  by_cases e : d' = d ∧ p' = k
  · obtain ⟨rfl, rfl⟩ := e
    simp [hd, hk]
  · rw [if_neg e]
    by_cases h1 : d' < d ∨ d' = d ∧ p' < k
    · rw [if_pos h1, if_pos (by omega)]
    · rw [if_neg h1, if_neg (by omega)]
theorem upTo_next (rows : List (List Nat)) (d : Nat) (hd : d < rows.length) : upTo rows d rows[d].length = upTo rows (d + 1) 0 := by
  funext d' p'
  unfold upTo
  by_cases h1 : d' < d ∨ d' = d ∧ p' < rows[d].length
  · rw [if_pos h1, if_pos (by omega)]
  · rw [if_neg h1]
    by_cases h2 : d' < d + 1 ∨ d' = d + 1 ∧ p' < 0
    · have e : d' = d := by omega
      subst e
      rw [if_pos h2]
      simp [hd]
      omega
    · rw [if_neg h2]
theorem upTo_free (rows : List (List Nat)) (d k : Nat) : (upTo rows d k d k).isSome = false := by simp [upTo]
theorem words_oneCell (l : List (List UInt8)) : ∀ u ∈ strV l, u.oneCell' = true := by
  intro u hu
  simp [strV] at hu
  obtain ⟨x, _, rfl⟩ := hu
  rfl
end Go.Proofs.YtpdoacfiiledcaaGreatDoor.Pak

namespace Go.Proofs.YtpdoacfiiledcaaGreatDoor.Pak
open Go.RowKit Go.Proofs.YtpdoacfiiledcaaGreatDoor Go.Proofs.YtpdoacfiiledcaaGreatDoor.Spl SiftM Go.Sort
set_option linter.unusedVariables false

theorem holds_strs {w : World} {B g n cap : Nat} {l : List (List UInt8)} (h : w.ownsRow B 9 1 (.slice (some ⟨g, 0, none⟩) n cap) n (strV l)) (hl : l.length = n) : Holds encStr w g 0 l.toArray := by
  intro j hj
  have hj' : j < l.length := by simpa using hj
  rcases h.2 with ⟨e1, _⟩ | ⟨g', cap', cur, e1, hb, hg, hn', hcm, hcs, ht⟩
  · simp at e1
  · simp at e1
    obtain ⟨rfl, rfl⟩ := e1
    constructor
    · have hc := strs_cells h hl j hj'
      rw [Nat.zero_add, hc, getElem!_pos _ j hj]
      simp [encStr]
    · simp [World.frozen?, hg]
theorem strV_enc (l : List (List UInt8)) : l.map encStr = strV l := rfl

theorem sort_own (B : Nat) (v : Value) (zs : List (List UInt8)) (w : World) (h : w.ownsRow B 9 1 v zs.length (strV zs)) (hl : zs.length ≤ 2000000) :
    Calls Tryz.prog 313 #[v] w fun e w' => e = .returned (.tuple #[]) ∧ w'.ownsRow B 9 1 v zs.length (strV (zs.mergeSort fun x y => decide (x ≤ y))) ∧ Kp v.ownBlock.toList w w' := by
  obtain ⟨a, cap, rfl, ha⟩ := owns_forms h
  by_cases h0 : zs.length = 0
  · have hz : zs = [] := List.eq_nil_of_length_eq_zero h0
    subst hz
    refine (Tryz.slices_Sort_string_none a cap w).mono ?_
    rintro e w' ⟨rfl, rfl⟩
    exact ⟨rfl, by simpa using h, Kp.refl _ _⟩
  · obtain ⟨g, rfl⟩ := ha (by omega)
    refine (Tryz.slices_Sort_string g 0 cap zs w (holds_strs h rfl) (h.lt g rfl).2 (by omega)).mono ?_
    rintro e w' ⟨rfl, n, os, rfl⟩
    refine ⟨rfl, ?_, put_kp encStr w g n _ os⟩
    have := put_owns encStr h (zs.mergeSort fun x y => decide (x ≤ y)).toArray (by simp) n os
    simpa [strV_enc] using this

theorem compact_own (B : Nat) (v : Value) (zs : List (List UInt8)) (w : World) (h : w.ownsRow B 9 1 v zs.length (strV zs)) (hl : zs.length ≤ 2000000) (hc : (Lib.compact zs).length ≤ zs.length) :
    Calls Tryz.prog 314 #[v] w fun e w' => ∃ v', e = .returned v' ∧ w'.ownsRow B 9 1 v' (Lib.compact zs).length (strV (Lib.compact zs)) ∧ v'.ownBlock = v.ownBlock ∧ Kp v.ownBlock.toList w w' := by
  obtain ⟨a, cap, rfl, ha⟩ := owns_forms h
  by_cases h0 : zs.length = 0
  · have hz : zs = [] := List.eq_nil_of_length_eq_zero h0
    subst hz
    refine (Tryz.slices_Compact_string_empty a cap w).mono ?_
    rintro e w' ⟨rfl, rfl⟩
    exact ⟨_, rfl, h, rfl, Kp.refl _ _⟩
  · obtain ⟨g, rfl⟩ := ha (by omega)
    have hcap : zs.length ≤ cap := by
      rcases h.2 with ⟨e1, _⟩ | ⟨g', cap', cur, e1, hb, hg, hn', _⟩
      · simp at e1
      · simp at e1; omega
    refine (Tryz.slices_Compact_string g 0 cap zs w (holds_strs h rfl) (by omega) hcap).mono ?_
    rintro e w' ⟨rfl, q, rfl⟩
    have hsz : (Lib.compact zs ++ List.replicate (zs.length - (Lib.compact zs).length) []).length = zs.length := by simp; omega
    have hp := put_owns encStr h (Lib.compact zs ++ List.replicate (zs.length - (Lib.compact zs).length) []).toArray (by simp; omega) q #[]
    rw [Sort.grow_empty] at hp
    have hk := put_kp encStr w g q (Lib.compact zs ++ List.replicate (zs.length - (Lib.compact zs).length) []).toArray #[]
    rw [Sort.grow_empty] at hk
    refine ⟨_, rfl, ?_, rfl, hk⟩
    have := owns_shrink hp hc
    rw [Nat.mul_one] at this
    simp [strV_enc] at this
    rw [List.take_left' (by simp [strV])] at this
    exact this

theorem bs_own (B : Nat) (v : Value) (zs : List (List UInt8)) (x : List UInt8) (w : World) (h : w.ownsRow B 9 1 v zs.length (strV zs)) (hl : zs.length ≤ 2000000) (h0 : 0 < zs.length) :
    Calls Tryz.prog 273 #[v, .string ⟨x.toArray⟩] w fun e w' => (∃ b, e = .returned (.tuple #[.int .i64 (bsIx zs x), .bool b])) ∧ ∃ q, w' = w.drewN q := by
  obtain ⟨a, cap, rfl, ha⟩ := owns_forms h
  obtain ⟨g, rfl⟩ := ha h0
  have hcon := Any2.slices_BinarySearch_string Tryz.bsStr g 0 zs.length cap (fun t => ⟨(zs.getD t []).toArray⟩) ⟨x.toArray⟩ w (by omega) (by
    intro j hj
    have := strs_cells h rfl j hj
    rw [Nat.zero_add, this, List.getD_eq_getElem?_getD, List.getElem?_eq_getElem hj]; rfl)
  change Calls Tryz.prog 273 _ _ _ at hcon
  have e1 : (fun t => Op.bytesLess (ByteArray.mk (zs.getD t []).toArray).toList (ByteArray.mk x.toArray).toList) = fun t => Op.bytesLess (zs.getD t []) x := by
    funext t
    simp
  rw [e1] at hcon
  refine hcon.mono ?_
  rintro e w' ⟨rfl, q, rfl⟩
  exact ⟨⟨_, rfl⟩, q, rfl⟩
theorem owns_disj {w : World} {b b' n n' size size' : Nat} {e e' : TypeId} {v v' : Value} {xs xs' : List Value} (h : w.ownsRow b e size v n xs) (h' : w.ownsRow b' e' size' v' n' xs') (he : e ≠ e') : ∀ g, v.ownBlock = some g → v'.ownBlock ≠ some g := by
  intro g hg
  rcases h.2 with ⟨rfl, _⟩ | ⟨g', cap, cur, rfl, hb, hgg, rest⟩
  · simp [Value.ownBlock] at hg
  · simp [Value.ownBlock] at hg
    subst hg
    exact owns_ne h' hgg he
end Go.Proofs.YtpdoacfiiledcaaGreatDoor.Pak

namespace Go.Proofs.YtpdoacfiiledcaaGreatDoor.Pak
open Go.RowKit Go.Proofs.YtpdoacfiiledcaaGreatDoor Go.Proofs.YtpdoacfiiledcaaGreatDoor.Spl SiftM
set_option linter.unusedVariables false

abbrev Po := Nat × List Nat
/-- A list of postings. -/
structure PostIs (w : World) (base : Nat) (v : Value) (P : List Po) (pvs : List Value) : Prop where
  len : pvs.length = P.length
  row : w.ownsRow base 458 2 v P.length (tx2 ((P.map Prod.fst).zip pvs))
  each : ∀ i (h : i < P.length) (h2 : i < pvs.length), w.ownsRow base 3 1 pvs[i] P[i].2.length (intV P[i].2)
  apart : ∀ i j (hi : i < pvs.length) (hj : j < pvs.length), i < j → ∀ g, pvs[i].ownBlock = some g → pvs[j].ownBlock ≠ some g
def foot (v : Value) (pvs : List Value) : List Nat := v.ownBlock.toList ++ pvs.flatMap fun u => u.ownBlock.toList
theorem foot_row {v : Value} {pvs : List Value} {g : Nat} (h : v.ownBlock = some g) : g ∈ foot v pvs := by simp [foot, h]
theorem foot_each {v : Value} {pvs : List Value} {i g : Nat} (hi : i < pvs.length) (h : pvs[i].ownBlock = some g) : g ∈ foot v pvs := by
  simp only [foot, List.mem_append, List.mem_flatMap]
  exact .inr ⟨pvs[i], List.getElem_mem hi, by simp [h]⟩
theorem PostIs.nil (w : World) (base : Nat) : PostIs w base (.slice none 0 0) [] [] := ⟨rfl, World.ownsRow_nil _ _ _ _, fun i h => by simp at h, fun i j h => by simp at h⟩
theorem PostIs.kp {S : List Nat} {w w' : World} {base : Nat} {v : Value} {P : List Po} {pvs : List Value} (h : PostIs w base v P pvs) (k : Kp S w w') (hS : ∀ x ∈ S, x ∉ foot v pvs) : PostIs w' base v P pvs :=
  ⟨h.len, k.owns h.row (fun g hg hx => hS g hx (foot_row hg)), fun i h1 h2 => k.owns (h.each i h1 h2) (fun g hg hx => hS g hx (foot_each h2 hg)), h.apart⟩
theorem PostIs.foot_lt {w : World} {base : Nat} {v : Value} {P : List Po} {pvs : List Value} (h : PostIs w base v P pvs) : ∀ x ∈ foot v pvs, base ≤ x ∧ x < w.heap.size := by
  intro x hx
  simp only [foot, List.mem_append, List.mem_flatMap] at hx
  rcases hx with hx | ⟨u, hu, hx⟩
  · exact h.row.lt x (by simpa using hx)
  · obtain ⟨i, hi, rfl⟩ := List.getElem_of_mem hu
    exact (h.each i (by rw [← h.len]; exact hi) hi).lt x (by simpa using hx)
theorem PostIs.cells {w : World} {base g cap n : Nat} {P : List Po} {pvs : List Value} (h : PostIs w base (.slice (some ⟨g, 0, none⟩) n cap) P pvs) (i : Nat) (hi : i < P.length) (h2 : i < pvs.length) :
    w.cell? ⟨g, i * 2, none⟩ = some (.int .i64 (P[i].1 : Int)) ∧ w.cell? ⟨g, i * 2 + 1, none⟩ = some pvs[i] := by
  have hz : i < ((P.map Prod.fst).zip pvs).length := by simp; omega
  have hg := tx2_get ((P.map Prod.fst).zip pvs) i hz
  have ea : ∀ j, (⟨g, 0, none⟩ : Addr).add j = ⟨g, j, none⟩ := by intro j; unfold Addr.add; split <;> simp_all
  have c0 := h.row.cells (g := g) rfl _ _ hg.1
  have c1 := h.row.cells (g := g) rfl _ _ hg.2
  rw [ea] at c0 c1
  simp at c0 c1
  exact ⟨c0, c1⟩
def wsF (P : List Po) (d p : Nat) : List Po :=
  match P.getLast? with
  | none => [(d, [p])]
  | some l => if l.1 = d then P.dropLast ++ [(d, l.2 ++ [p])] else P ++ [(d, [p])]
theorem info103 : (Tryz.prog.info? 458).map (fun i => (i.zero, i.size, i.bytes)) = some (some (.agg #[.int .i64 0, .slice none 0 0]), 2, 32) := by kernel_rfl

/-- Postings behind an append of one more. -/
theorem PostIs.snoc {w w2 : World} {base : Nat} {v v' lv : Value} {P : List Po} {pvs : List Value} {d : Nat} {ps : List Nat} (h : PostIs w base v P pvs) (hl : w.ownsRow base 3 1 lv ps.length (intV ps)) (hap : ∀ i (hi : i < pvs.length), ∀ g, pvs[i].ownBlock = some g → lv.ownBlock ≠ some g)
    (hrow : w2.ownsRow base 458 2 v' (P.length + 1) (tx2 ((P.map Prod.fst).zip pvs) ++ [.int .i64 (d : Int), lv])) (k : Kp v.ownBlock.toList w w2) : PostIs w2 base v' (P ++ [(d, ps)]) (pvs ++ [lv]) := by
  have hne : ∀ {n : Nat} {u : Value} {xs : List Value}, w.ownsRow base 3 1 u n xs → ∀ g, u.ownBlock = some g → g ∉ v.ownBlock.toList := by
    intro n u xs hu g hg hx
    exact owns_disj hu h.row (by decide) g hg (by simpa using hx)
  refine ⟨by simp [h.len], ?_, ?_, ?_⟩
  · rw [List.length_append, List.map_append, List.zip_append (by simp [h.len]), show [(d, ps)].map Prod.fst = [d] from rfl, show [d].zip [lv] = [(d, lv)] from rfl, tx2_snoc]
    exact hrow
  · intro i h1 h2
    by_cases e : i < P.length
    · have e2 : i < pvs.length := by rw [h.len]; exact e
      rw [List.getElem_append_left e2]
      simp only [List.getElem_append_left e]
      exact k.owns (h.each i e e2) (hne (h.each i e e2))
    · have ei : i = P.length := by simp at h1; omega
      subst ei
      have e2 : (pvs ++ [lv])[P.length] = lv := by rw [List.getElem_append_right (by rw [h.len]; omega)]; simp [h.len]
      rw [e2]
      simp only [List.getElem_append_right (Nat.le_refl _), Nat.sub_self, List.getElem_cons_zero]
      exact k.owns hl (hne hl)
  · intro i j hi hj hij g hg
    by_cases e : j < pvs.length
    · rw [List.getElem_append_left e]
      rw [List.getElem_append_left (by omega)] at hg
      exact h.apart i j (by omega) e hij g hg
    · have ej : j = pvs.length := by simp at hj; omega
      subst ej
      rw [List.getElem_append_left (by omega)] at hg
      have e2 : (pvs ++ [lv])[pvs.length] = lv := by rw [List.getElem_append_right (Nat.le_refl _)]; simp
      rw [e2]
      exact hap i (by omega) g hg

/-- What withSpot leaves. -/
def SpotPost (w : World) (base : Nat) (v : Value) (P : List Po) (pvs : List Value) (d p : Nat) (e : Ending) (w' : World) : Prop :=
  ∃ v' pvs', e = .returned v' ∧ PostIs w' base v' (wsF P d p) pvs' ∧ Kp (foot v pvs) w w' ∧ ∀ x ∈ foot v' pvs', x ∈ foot v pvs ∨ w.heap.size ≤ x
end Go.Proofs.YtpdoacfiiledcaaGreatDoor.Pak

