import Derived.Test.YtnffagpdnklnkaaGreatDoorV06
import Derived.Test.YtnffagpdnklnkaaGreatDoorV05
import Derived.Deep.RegionHeld3
import Derived.BigQuiet
import Derived.Deep.QuietTactic
import Derived.Laws.AppendOwnNone
import Derived.Deep.RegionLaw
set_option linter.unusedVariables false
set_option linter.unusedSimpArgs false
set_option maxRecDepth 8000
namespace Go.Proofs.YtnffagpdnklnkaaGreatDoor.Pak
open Go.RowKit Go.Proofs.YtnffagpdnklnkaaGreatDoor Go.Proofs.YtnffagpdnklnkaaGreatDoor.Spl SiftM
abbrev Tx := Nat × List (List UInt8)
def mayB : List Tx → Int → Bool
  | [], c => c == 0
  | t :: r, c => if 120 < lenF t.2 then false else mayB r (c - t.2.length)

theorem tx2_get : ∀ (xs : List (Nat × Value)) (i : Nat) (h : i < xs.length), (tx2 xs)[i * 2]? = some (.int .i64 (xs[i].1 : Int)) ∧ (tx2 xs)[i * 2 + 1]? = some xs[i].2
  | x :: r, 0, h => by simp [tx2]
  | x :: r, i + 1, h => by
    have ih := tx2_get r i (by simpa using h)
    have e : tx2 (x :: r) = .int .i64 (x.1 : Int) :: x.2 :: tx2 r := by simp [tx2]
    rw [e, show (i + 1) * 2 = i * 2 + 2 by omega, show i * 2 + 2 + 1 = i * 2 + 1 + 2 by omega]
    simpa using ih
/-- The cells of a list of texts. -/
theorem TextsIs.cells {w : World} {base g cap n : Nat} {T : List Tx} {vs : List Value} (h : TextsIs w base (.slice (some ⟨g, 0, none⟩) n cap) T vs) (i : Nat) (hi : i < T.length) (h2 : i < vs.length) :
    w.cell? ⟨g, i * 2, none⟩ = some (.int .i64 (T[i].1 : Int)) ∧ w.cell? ⟨g, i * 2 + 1, none⟩ = some vs[i] := by
  have hz : i < ((T.map Prod.fst).zip vs).length := by simp; omega
  have hg := tx2_get ((T.map Prod.fst).zip vs) i hz
  have ea : ∀ j, (⟨g, 0, none⟩ : Addr).add j = ⟨g, j, none⟩ := by intro j; unfold Addr.add; split <;> simp_all
  have c0 := h.row.cells (g := g) rfl _ _ hg.1
  have c1 := h.row.cells (g := g) rfl _ _ hg.2
  rw [ea] at c0 c1
  simp at c0 c1
  exact ⟨c0, c1⟩
theorem TextsIs.kp {S : List Nat} {w w' : World} {base : Nat} {v : Value} {T : List Tx} {vs : List Value} (h : TextsIs w base v T vs) (k : Kp S w w') (hv : ∀ x ∈ S, v.ownBlock ≠ some x) (hvs : ∀ i (h : i < vs.length), ∀ x ∈ S, vs[i].ownBlock ≠ some x) : TextsIs w' base v T vs :=
  ⟨h.len, k.owns h.row (fun g hg hx => hv g hx hg), fun i h1 h2 => k.owns (h.each i h1 h2) (fun g hg hx => hvs i h2 g hx hg), h.apart⟩
theorem TextsIs.kp0 {w w' : World} {base : Nat} {v : Value} {T : List Tx} {vs : List Value} (h : TextsIs w base v T vs) (k : Kp [] w w') : TextsIs w' base v T vs := h.kp k (by simp) (by simp)

set_option maxHeartbeats 800000 in
set_option maxRecDepth 100000 in
theorem maybe_any (B c : Nat) (v : Value) (T : List Tx) (vs : List Value) (w : World) (h : TextsIs w B v T vs) (hn : T.length ≤ 1000) (hc : c ≤ 1000000000) (hs : ∀ t ∈ T, t.2.length ≤ 1000 ∧ sumL t.2 ≤ 2000000) :
    Calls Tryz.prog 65 #[v, .int .i64 c] w fun e w' => e = .returned (.bool (mayB T c)) ∧ Kp [] w w' := by
  obtain ⟨a, cap, rfl, ha⟩ := owns_forms h.row
  obtain ⟨res, hres⟩ : ∃ res, mayB T c = res := ⟨_, rfl⟩
  rw [hres]
  have HR := hide hres
  have HH := hide h
  have HS := hide hs
  clear h hs hres
  go_enter Tryz.func65, Tryz.ntmps65
  go_wp2_with fail
  go_loopw [1, 9] (fun cv iv wr => ∃ (k : Nat) (c' : Int), k ≤ T.length ∧ iv = .int .i64 k ∧ cv = .int .i64 c' ∧ mayB (T.drop k) c' = res ∧ c' ≤ 1000000000 ∧ -(1000 * (k : Int)) ≤ c' ∧ Kp [] w wr) (fun _ iv _ => T.length - (intOf iv).toNat)
  case atStart => exact ⟨0, c, by omega, rfl, rfl, HR.out, by omega, by omega, Kp.refl _ _⟩
  case round =>
    obtain ⟨k, c', hk, rfl, rfl, hd, hc1, hc2, hkp⟩ := hrel
    by_cases hlt : k < T.length
    · obtain ⟨g, rfl⟩ := ha (by omega)
      have hh := HH.out.kp0 hkp
      have hkv : k < vs.length := by rw [hh.len]; exact hlt
      obtain ⟨q0, q1⟩ := hh.cells k hlt hkv
      have he := hh.each k hlt hkv
      obtain ⟨av, cv, ev, _⟩ := owns_forms he
      rw [ev] at q1 he
      have hsk := HS.out T[k] (List.getElem_mem hlt)
      have hdk : T.drop k = T[k] :: T.drop (k + 1) := List.drop_eq_getElem_cons hlt
      rw [hdk] at hd
      obtain ⟨t, ht⟩ : ∃ t, T[k] = t := ⟨_, rfl⟩
      rw [ht] at q0 q1 he hsk hd
      obtain ⟨id, ws⟩ := t
      simp only at q0 q1 he hsk
      obtain ⟨W, hW⟩ : ∃ W, wr.alloc (.cells #[.int .i64 (id : Int), .slice av ws.length cv] 50) = W := ⟨_, rfl⟩
      have kW : Kp [] wr W := by rw [← hW]; exact (Kp.refl _ _).alloc _
      have hL := length_any B (.slice av ws.length cv) ws W (kW.owns he (by simp)) (by omega) (by omega)
      have hb : W.heap[wr.heap.size]? = some (.cells #[.int .i64 (id : Int), .slice av ws.length cv] 50 (0, 0)) := by rw [← hW]; exact heap_alloc_new wr _
      obtain ⟨p0, p1, _, _⟩ := rd_cells hb
      have HD := hide hd
      have HL := hide hL
      have HE := hide he
      have hkW := hkp.next kW
      clear hd hL he hdk ht ev hb hh
      go_wp2_with fail
      clear hW
      refine HL.out.mono ?_
      rintro e w1 ⟨rfl, rfl⟩
      by_cases hl : 120 < lenF ws
      · have hdd : Hid (false = res) := by
          have := HD.out
          simp only [mayB] at this
          rw [if_pos hl] at this
          exact this
        generalize lenF ws = x at *
        go_wp2_with fail
        go_ret
        exact ⟨ret_bool hdd.out, hkW⟩
      · have hdd : Hid (mayB (T.drop (k + 1)) (c' - (ws.length : Int)) = res) := by
          have := HD.out
          simp only [mayB] at this
          rw [if_neg hl] at this
          exact this
        generalize lenF ws = x at *
        go_wp2_with fail
        go_roundw
        case rel => exact ⟨k + 1, c' - (ws.length : Int), by omega, by go_num, by go_num, hdd.out, by omega, by omega, hkW⟩
        case measure => simp [intOf]; omega
    · have ek : k = T.length := by omega
      subst ek
      rw [List.drop_length] at hd
      have HD := hide hd
      clear hd
      go_wp2_with fail
      go_ret
      exact ⟨ret_bool (by rw [← HD.out]; rfl), hkp⟩
def wordsB (b : ByteArray) : List (List UInt8) := sp b.size b.data.toList
theorem TextsIs.nil (w : World) (base : Nat) : TextsIs w base (.slice none 0 0) [] [] := ⟨rfl, World.ownsRow_nil _ _ _ _, fun i h => by simp at h, fun i j h => by simp at h⟩

/-- A list of texts behind an append. -/
theorem TextsIs.snoc {w w2 : World} {base : Nat} {v v' lv : Value} {T : List Tx} {vs : List Value} {id : Nat} {ws : List (List UInt8)} {S : List Nat} (h : TextsIs w base v T vs) (hl : w.ownsRow base 9 1 lv ws.length (strV ws)) (hap : ∀ i (hi : i < vs.length), ∀ g, vs[i].ownBlock = some g → lv.ownBlock ≠ some g)
    (hrow : w2.ownsRow base 50 2 v' (T.length + 1) (tx2 ((T.map Prod.fst).zip vs) ++ [.int .i64 (id : Int), lv])) (k : Kp v.ownBlock.toList w w2) : TextsIs w2 base v' (T ++ [(id, ws)]) (vs ++ [lv]) := by
  have hne : ∀ {n : Nat} {u : Value} {xs : List Value}, w.ownsRow base 9 1 u n xs → ∀ g, u.ownBlock = some g → g ∉ v.ownBlock.toList := by
    intro n u xs hu g hg hx
    have hx' : v.ownBlock = some g := by simpa using hx
    rcases h.row.2 with ⟨rfl, _⟩ | ⟨g', cap, cur, rfl, hb, hgg, rest⟩
    · simp [Value.ownBlock] at hx'
    · simp [Value.ownBlock] at hx'
      subst hx'
      exact owns_ne hu hgg (by decide) hg
  refine ⟨by simp [h.len], ?_, ?_, ?_⟩
  · rw [List.length_append, List.map_append, List.zip_append (by simp [h.len]), show [(id, ws)].map Prod.fst = [id] from rfl, show [id].zip [lv] = [(id, lv)] from rfl, tx2_snoc]
    exact hrow
  · intro i h1 h2
    by_cases e : i < T.length
    · have e2 : i < vs.length := by rw [h.len]; exact e
      rw [List.getElem_append_left e2]
      simp only [List.getElem_append_left e]
      exact k.owns (h.each i e e2) (hne (h.each i e e2))
    · have ei : i = T.length := by simp at h1; omega
      subst ei
      have e2 : (vs ++ [lv])[T.length] = lv := by rw [List.getElem_append_right (by rw [h.len]; omega)]; simp [h.len]
      rw [e2]
      simp only [List.getElem_append_right (Nat.le_refl _), Nat.sub_self, List.getElem_cons_zero]
      exact k.owns hl (hne hl)
  · intro i j hi hj hij g hg
    by_cases e : j < vs.length
    · rw [List.getElem_append_left e]
      rw [List.getElem_append_left (by omega)] at hg
      exact h.apart i j (by omega) e hij g hg
    · have ej : j = vs.length := by simp at hj; omega
      subst ej
      rw [List.getElem_append_left (by omega)] at hg
      have e2 : (vs ++ [lv])[vs.length] = lv := by rw [List.getElem_append_right (Nat.le_refl _)]; simp
      rw [e2]
      exact hap i (by omega) g hg
/-- append of all of another list. -/
theorem wpList_append_src {P : Program} (w : World) {ops : Array Oper} {rest : List Oper} {o : Oper} {a : Act} {Q : Exit → Act → World → Prop} (hgd : o.guard = none) (s x : Operand) (t : TypeId)
    (ho : o.op = .call { callee := .builtin .append, args := #[s, x], argTypes := #[t, t] })
    (base : Nat) (e : TypeId) (i : TypeInfo) (z : Value) (size bytes : Nat) (ht : P.underlying t = some (.slice e)) (hi : P.info? e = some i) (hz : i.zero = some z)
    (hsize : i.size = size) (hby : i.bytes = bytes) (hzs : z.cells.size = size) (hsz : 0 < size)
    (v : Value) (n : Nat) (xs : List Value) (hs : a.eval s = v) (hown : w.ownsRow base e size v n xs)
    (xv : Value) (base' m : Nat) (news : List Value) (hx : a.eval x = xv) (hsrc : w.ownsRow base' e size xv m news) (h1 : ∀ u ∈ news, u.oneCell' = true)
    (h63 : n + m ≤ maxLen) (hbytes : (n + m) * bytes ≤ 140737488355328) (hbase : base ≤ w.heap.size)
    (h : ∀ v' w', w'.ownsRow base e size v' (n + m) (xs ++ news) → w.grownBy w' v.ownBlock → (v'.ownBlock = v.ownBlock ∨ v'.ownBlock = some w.heap.size) → wpList P ops Q rest (a.put o.dst v') w') :
    wpList P ops Q (o :: rest) a w := by
  rcases hsrc.2 with ⟨rfl, rfl⟩ | ⟨g, cap, cur, rfl, hb, hg, rest'⟩
  · have hn : news = [] := List.eq_nil_of_length_eq_zero (by simpa using hsrc.1)
    subst hn
    refine wpList_append_own_none hgd s x t ho base e i size ht hi v n xs hs hown hx ?_
    exact h v w (by simpa using hown) (World.grownBy.refl _ _) (.inl rfl)
  · refine wpList_append_own_at w hgd s x t ho base e i z size bytes ht hi hz hsize hby hzs hsz v n xs hs hown ⟨g, 0, none⟩ m cap news hx hsrc.1 (hsrc.cells (g := g) rfl) h1 h63 hbytes hbase ?_
    intro v' w' h1 h2 _ h3
    exact h v' w' h1 h2 h3

def allW : List Tx → List (List UInt8)
  | [] => []
  | t :: r => t.2 ++ allW r
theorem allW_snoc : ∀ (T : List Tx) (t : Tx), allW (T ++ [t]) = allW T ++ t.2
  | [], t => by simp [allW]
  | x :: r, t => by simp [allW, allW_snoc r t]
def termsOf (T : List Tx) : List (List UInt8) := Lib.compact ((allW T).mergeSort fun x y => decide (x ≤ y))
def bsIx (terms : List (List UInt8)) (x : List UInt8) : Nat := Lib.bsGo (fun t => Op.bytesLess (terms.getD t []) x) terms.length 0 terms.length
def rowsOf (T : List Tx) : List (List Nat) := T.map fun t => t.2.map (bsIx (termsOf T))
/-- What the map says: the words of the docs ahead of d, and k of doc d. -/
def upTo (rows : List (List Nat)) (d k : Nat) : Nat → Nat → Option Nat := fun d' p' => if d' < d ∨ d' = d ∧ p' < k then (rows[d']?).bind (·[p']?) else none
def cntTo (rows : List (List Nat)) : Nat → Nat
  | 0 => 0
  | d + 1 => cntTo rows d + (rows.getD d []).length
theorem upTo_zero (rows : List (List Nat)) : upTo rows 0 0 = no := by
  funext d p; simp [upTo, no]
theorem upTo_put (rows : List (List Nat)) (d k : Nat) (hd : d < rows.length) (hk : k < rows[d].length) : putAt (upTo rows d k) d k rows[d][k] = upTo rows d (k + 1) := by
  funext d' p'
  unfold putAt upTo
  by_cases e : d' = d ∧ p' = k
  · obtain ⟨rfl, rfl⟩ := e
    simp [hd, hk]
  · rw [if_neg e]
    by_cases h1 : d' < d ∨ d' = d ∧ p' < k
    · rw [if_pos h1, if_pos (by omega)]
    · rw [if_neg h1, if_neg (by omega)]
theorem upTo_next (rows : List (List Nat)) (d : Nat) (hd : d < rows.length) : upTo rows d rows[d].length = upTo rows (d + 1) 0 := by
  funext d' p'
  unfold upTo
  by_cases h1 : d' < d ∨ d' = d ∧ p' < rows[d].length
  · rw [if_pos h1, if_pos (by omega)]
  · rw [if_neg h1]
    by_cases h2 : d' < d + 1 ∨ d' = d + 1 ∧ p' < 0
    · have e : d' = d := by omega
      subst e
      rw [if_pos h2]
      simp [hd]
      omega
    · rw [if_neg h2]
theorem upTo_free (rows : List (List Nat)) (d k : Nat) : (upTo rows d k d k).isSome = false := by simp [upTo]
theorem words_oneCell (l : List (List UInt8)) : ∀ u ∈ strV l, u.oneCell' = true := by
  intro u hu
  simp [strV] at hu
  obtain ⟨x, _, rfl⟩ := hu
  rfl
end Go.Proofs.YtnffagpdnklnkaaGreatDoor.Pak
namespace Go.Proofs.YtnffagpdnklnkaaGreatDoor.Pak
open Go.RowKit Go.Proofs.YtnffagpdnklnkaaGreatDoor Go.Proofs.YtnffagpdnklnkaaGreatDoor.Spl SiftM Go.Sort
theorem holds_strs {w : World} {B g n cap : Nat} {l : List (List UInt8)} (h : w.ownsRow B 9 1 (.slice (some ⟨g, 0, none⟩) n cap) n (strV l)) (hl : l.length = n) : Holds encStr w g 0 l.toArray := by
  intro j hj
  have hj' : j < l.length := by simpa using hj
  rcases h.2 with ⟨e1, _⟩ | ⟨g', cap', cur, e1, hb, hg, hn', hcm, hcs, ht⟩
  · simp at e1
  · simp at e1
    obtain ⟨rfl, rfl⟩ := e1
    constructor
    · have hc := strs_cells h hl j hj'
      rw [Nat.zero_add, hc, getElem!_pos _ j hj]
      simp [encStr]
    · simp [World.frozen?, hg]
theorem strV_enc (l : List (List UInt8)) : l.map encStr = strV l := rfl

theorem sort_own (B : Nat) (v : Value) (zs : List (List UInt8)) (w : World) (h : w.ownsRow B 9 1 v zs.length (strV zs)) (hl : zs.length ≤ 2000000) :
    Calls Tryz.prog 91 #[v] w fun e w' => e = .returned (.tuple #[]) ∧ w'.ownsRow B 9 1 v zs.length (strV (zs.mergeSort fun x y => decide (x ≤ y))) ∧ Kp v.ownBlock.toList w w' := by
  obtain ⟨a, cap, rfl, ha⟩ := owns_forms h
  by_cases h0 : zs.length = 0
  · have hz : zs = [] := List.eq_nil_of_length_eq_zero h0
    subst hz
    refine (Tryz.slices_Sort_string_none a cap w).mono ?_
    rintro e w' ⟨rfl, rfl⟩
    exact ⟨rfl, by simpa using h, Kp.refl _ _⟩
  · obtain ⟨g, rfl⟩ := ha (by omega)
    refine (Tryz.slices_Sort_string g 0 cap zs w (holds_strs h rfl) (h.lt g rfl).2 (by omega)).mono ?_
    rintro e w' ⟨rfl, n, os, rfl⟩
    refine ⟨rfl, ?_, put_kp encStr w g n _ os⟩
    have := put_owns encStr h (zs.mergeSort fun x y => decide (x ≤ y)).toArray (by simp) n os
    simpa [strV_enc] using this

theorem compact_own (B : Nat) (v : Value) (zs : List (List UInt8)) (w : World) (h : w.ownsRow B 9 1 v zs.length (strV zs)) (hl : zs.length ≤ 2000000) (hc : (Lib.compact zs).length ≤ zs.length) :
    Calls Tryz.prog 165 #[v] w fun e w' => ∃ v', e = .returned v' ∧ w'.ownsRow B 9 1 v' (Lib.compact zs).length (strV (Lib.compact zs)) ∧ v'.ownBlock = v.ownBlock ∧ Kp v.ownBlock.toList w w' := by
  obtain ⟨a, cap, rfl, ha⟩ := owns_forms h
  by_cases h0 : zs.length = 0
  · have hz : zs = [] := List.eq_nil_of_length_eq_zero h0
    subst hz
    refine (Tryz.slices_Compact_string_empty a cap w).mono ?_
    rintro e w' ⟨rfl, rfl⟩
    exact ⟨_, rfl, h, rfl, Kp.refl _ _⟩
  · obtain ⟨g, rfl⟩ := ha (by omega)
    have hcap : zs.length ≤ cap := by
      rcases h.2 with ⟨e1, _⟩ | ⟨g', cap', cur, e1, hb, hg, hn', _⟩
      · simp at e1
      · simp at e1; omega
    refine (Tryz.slices_Compact_string g 0 cap zs w (holds_strs h rfl) (by omega) hcap).mono ?_
    rintro e w' ⟨rfl, q, rfl⟩
    have hsz : (Lib.compact zs ++ List.replicate (zs.length - (Lib.compact zs).length) []).length = zs.length := by simp; omega
    have hp := put_owns encStr h (Lib.compact zs ++ List.replicate (zs.length - (Lib.compact zs).length) []).toArray (by simp; omega) q #[]
    rw [Sort.grow_empty] at hp
    have hk := put_kp encStr w g q (Lib.compact zs ++ List.replicate (zs.length - (Lib.compact zs).length) []).toArray #[]
    rw [Sort.grow_empty] at hk
    refine ⟨_, rfl, ?_, rfl, hk⟩
    have := owns_shrink hp hc
    rw [Nat.mul_one] at this
    simp [strV_enc] at this
    rw [List.take_left' (by simp [strV])] at this
    exact this

theorem bs_own (B : Nat) (v : Value) (zs : List (List UInt8)) (x : List UInt8) (w : World) (h : w.ownsRow B 9 1 v zs.length (strV zs)) (hl : zs.length ≤ 2000000) (h0 : 0 < zs.length) :
    Calls Tryz.prog 86 #[v, .string ⟨x.toArray⟩] w fun e w' => (∃ b, e = .returned (.tuple #[.int .i64 (bsIx zs x), .bool b])) ∧ ∃ q, w' = w.drewN q := by
  obtain ⟨a, cap, rfl, ha⟩ := owns_forms h
  obtain ⟨g, rfl⟩ := ha h0
  have hcon := Any2.slices_BinarySearch_string Tryz.bsStr g 0 zs.length cap (fun t => ⟨(zs.getD t []).toArray⟩) ⟨x.toArray⟩ w (by omega) (by
    intro j hj
    have := strs_cells h rfl j hj
    rw [Nat.zero_add, this, List.getD_eq_getElem?_getD, List.getElem?_eq_getElem hj]; rfl)
  change Calls Tryz.prog 86 _ _ _ at hcon
  have e1 : (fun t => Op.bytesLess (ByteArray.mk (zs.getD t []).toArray).toList (ByteArray.mk x.toArray).toList) = fun t => Op.bytesLess (zs.getD t []) x := by
    funext t
    simp
  rw [e1] at hcon
  refine hcon.mono ?_
  rintro e w' ⟨rfl, q, rfl⟩
  exact ⟨⟨_, rfl⟩, q, rfl⟩
theorem owns_disj {w : World} {b b' n n' size size' : Nat} {e e' : TypeId} {v v' : Value} {xs xs' : List Value} (h : w.ownsRow b e size v n xs) (h' : w.ownsRow b' e' size' v' n' xs') (he : e ≠ e') : ∀ g, v.ownBlock = some g → v'.ownBlock ≠ some g := by
  intro g hg
  rcases h.2 with ⟨rfl, _⟩ | ⟨g', cap, cur, rfl, hb, hgg, rest⟩
  · simp [Value.ownBlock] at hg
  · simp [Value.ownBlock] at hg
    subst hg
    exact owns_ne h' hgg he
end Go.Proofs.YtnffagpdnklnkaaGreatDoor.Pak
namespace Go.Proofs.YtnffagpdnklnkaaGreatDoor.Pak
open Go.RowKit Go.Proofs.YtnffagpdnklnkaaGreatDoor Go.Proofs.YtnffagpdnklnkaaGreatDoor.Spl SiftM
abbrev Po := Nat × List Nat
/-- A list of postings. -/
structure PostIs (w : World) (base : Nat) (v : Value) (P : List Po) (pvs : List Value) : Prop where
  len : pvs.length = P.length
  row : w.ownsRow base 242 2 v P.length (tx2 ((P.map Prod.fst).zip pvs))
  each : ∀ i (h : i < P.length) (h2 : i < pvs.length), w.ownsRow base 3 1 pvs[i] P[i].2.length (intV P[i].2)
  apart : ∀ i j (hi : i < pvs.length) (hj : j < pvs.length), i < j → ∀ g, pvs[i].ownBlock = some g → pvs[j].ownBlock ≠ some g
def foot (v : Value) (pvs : List Value) : List Nat := v.ownBlock.toList ++ pvs.flatMap fun u => u.ownBlock.toList
theorem foot_row {v : Value} {pvs : List Value} {g : Nat} (h : v.ownBlock = some g) : g ∈ foot v pvs := by simp [foot, h]
theorem foot_each {v : Value} {pvs : List Value} {i g : Nat} (hi : i < pvs.length) (h : pvs[i].ownBlock = some g) : g ∈ foot v pvs := by
  simp only [foot, List.mem_append, List.mem_flatMap]
  exact .inr ⟨pvs[i], List.getElem_mem hi, by simp [h]⟩
theorem PostIs.nil (w : World) (base : Nat) : PostIs w base (.slice none 0 0) [] [] := ⟨rfl, World.ownsRow_nil _ _ _ _, fun i h => by simp at h, fun i j h => by simp at h⟩
theorem PostIs.kp {S : List Nat} {w w' : World} {base : Nat} {v : Value} {P : List Po} {pvs : List Value} (h : PostIs w base v P pvs) (k : Kp S w w') (hS : ∀ x ∈ S, x ∉ foot v pvs) : PostIs w' base v P pvs :=
  ⟨h.len, k.owns h.row (fun g hg hx => hS g hx (foot_row hg)), fun i h1 h2 => k.owns (h.each i h1 h2) (fun g hg hx => hS g hx (foot_each h2 hg)), h.apart⟩
theorem PostIs.foot_lt {w : World} {base : Nat} {v : Value} {P : List Po} {pvs : List Value} (h : PostIs w base v P pvs) : ∀ x ∈ foot v pvs, base ≤ x ∧ x < w.heap.size := by
  intro x hx
  simp only [foot, List.mem_append, List.mem_flatMap] at hx
  rcases hx with hx | ⟨u, hu, hx⟩
  · exact h.row.lt x (by simpa using hx)
  · obtain ⟨i, hi, rfl⟩ := List.getElem_of_mem hu
    exact (h.each i (by rw [← h.len]; exact hi) hi).lt x (by simpa using hx)
theorem PostIs.cells {w : World} {base g cap n : Nat} {P : List Po} {pvs : List Value} (h : PostIs w base (.slice (some ⟨g, 0, none⟩) n cap) P pvs) (i : Nat) (hi : i < P.length) (h2 : i < pvs.length) :
    w.cell? ⟨g, i * 2, none⟩ = some (.int .i64 (P[i].1 : Int)) ∧ w.cell? ⟨g, i * 2 + 1, none⟩ = some pvs[i] := by
  have hz : i < ((P.map Prod.fst).zip pvs).length := by simp; omega
  have hg := tx2_get ((P.map Prod.fst).zip pvs) i hz
  have ea : ∀ j, (⟨g, 0, none⟩ : Addr).add j = ⟨g, j, none⟩ := by intro j; unfold Addr.add; split <;> simp_all
  have c0 := h.row.cells (g := g) rfl _ _ hg.1
  have c1 := h.row.cells (g := g) rfl _ _ hg.2
  rw [ea] at c0 c1
  simp at c0 c1
  exact ⟨c0, c1⟩
def wsF (P : List Po) (d p : Nat) : List Po :=
  match P.getLast? with
  | none => [(d, [p])]
  | some l => if l.1 = d then P.dropLast ++ [(d, l.2 ++ [p])] else P ++ [(d, [p])]
theorem info103 : (Tryz.prog.info? 242).map (fun i => (i.zero, i.size, i.bytes)) = some (some (.agg #[.int .i64 0, .slice none 0 0]), 2, 32) := by kernel_rfl

/-- Postings behind an append of one more. -/
theorem PostIs.snoc {w w2 : World} {base : Nat} {v v' lv : Value} {P : List Po} {pvs : List Value} {d : Nat} {ps : List Nat} (h : PostIs w base v P pvs) (hl : w.ownsRow base 3 1 lv ps.length (intV ps)) (hap : ∀ i (hi : i < pvs.length), ∀ g, pvs[i].ownBlock = some g → lv.ownBlock ≠ some g)
    (hrow : w2.ownsRow base 242 2 v' (P.length + 1) (tx2 ((P.map Prod.fst).zip pvs) ++ [.int .i64 (d : Int), lv])) (k : Kp v.ownBlock.toList w w2) : PostIs w2 base v' (P ++ [(d, ps)]) (pvs ++ [lv]) := by
  have hne : ∀ {n : Nat} {u : Value} {xs : List Value}, w.ownsRow base 3 1 u n xs → ∀ g, u.ownBlock = some g → g ∉ v.ownBlock.toList := by
    intro n u xs hu g hg hx
    exact owns_disj hu h.row (by decide) g hg (by simpa using hx)
  refine ⟨by simp [h.len], ?_, ?_, ?_⟩
  · rw [List.length_append, List.map_append, List.zip_append (by simp [h.len]), show [(d, ps)].map Prod.fst = [d] from rfl, show [d].zip [lv] = [(d, lv)] from rfl, tx2_snoc]
    exact hrow
  · intro i h1 h2
    by_cases e : i < P.length
    · have e2 : i < pvs.length := by rw [h.len]; exact e
      rw [List.getElem_append_left e2]
      simp only [List.getElem_append_left e]
      exact k.owns (h.each i e e2) (hne (h.each i e e2))
    · have ei : i = P.length := by simp at h1; omega
      subst ei
      have e2 : (pvs ++ [lv])[P.length] = lv := by rw [List.getElem_append_right (by rw [h.len]; omega)]; simp [h.len]
      rw [e2]
      simp only [List.getElem_append_right (Nat.le_refl _), Nat.sub_self, List.getElem_cons_zero]
      exact k.owns hl (hne hl)
  · intro i j hi hj hij g hg
    by_cases e : j < pvs.length
    · rw [List.getElem_append_left e]
      rw [List.getElem_append_left (by omega)] at hg
      exact h.apart i j (by omega) e hij g hg
    · have ej : j = pvs.length := by simp at hj; omega
      subst ej
      rw [List.getElem_append_left (by omega)] at hg
      have e2 : (pvs ++ [lv])[pvs.length] = lv := by rw [List.getElem_append_right (Nat.le_refl _)]; simp
      rw [e2]
      exact hap i (by omega) g hg

/-- What withSpot leaves. -/
def SpotPost (w : World) (base : Nat) (v : Value) (P : List Po) (pvs : List Value) (d p : Nat) (e : Ending) (w' : World) : Prop :=
  ∃ v' pvs', e = .returned v' ∧ PostIs w' base v' (wsF P d p) pvs' ∧ Kp (foot v pvs) w w' ∧ ∀ x ∈ foot v' pvs', x ∈ foot v pvs ∨ w.heap.size ≤ x
/-- The rest of withSpot where a posting is put behind. -/
theorem spot_end {w w1 w2 : World} {base d p : Nat} {v v' lv : Value} {P : List Po} {pvs : List Value} (h : PostIs w base v P pvs) (hne : wsF P d p = P ++ [(d, [p])]) (hb : base ≤ w.heap.size) (k1 : Kp [] w w1) (hl : w1.ownsRow w.heap.size 3 1 lv 1 (intV [p]))
    (hrow : w2.ownsRow base 242 2 v' (P.length + 1) (tx2 ((P.map Prod.fst).zip pvs) ++ [.int .i64 (d : Int), lv])) (k2 : Kp v.ownBlock.toList w1 w2) (hloc : v'.ownBlock = v.ownBlock ∨ ∃ g, v'.ownBlock = some g ∧ w.heap.size ≤ g) :
    SpotPost w base v P pvs d p (.returned v') w2 := by
  have h1 := h.kp k1 (by simp)
  have hl' : w1.ownsRow base 3 1 lv [p].length (intV [p]) := by
    refine ⟨hl.1, ?_⟩
    rcases hl.2 with h' | ⟨g', cp, cur, e1, hb', rest⟩
    · exact .inl h'
    · exact .inr ⟨g', cp, cur, e1, by omega, rest⟩
  refine ⟨v', pvs ++ [lv], rfl, ?_, ?_, ?_⟩
  · rw [hne]
    refine h1.snoc hl' ?_ hrow k2
    intro i hi g hg hg2
    have h2 := (hl.lt g hg2).1
    have h3 := (h.foot_lt g (foot_each hi hg)).2
    omega
  · exact (k1.mono (by simp)).next (k2.mono (fun x hx => by simp only [foot, List.mem_append]; exact .inl hx))
  · intro x hx
    simp only [foot, List.mem_append, List.mem_flatMap, List.mem_singleton] at hx
    rcases hx with hx | ⟨u, hu | rfl, hx⟩
    · have hx' : v'.ownBlock = some x := by simpa using hx
      rcases hloc with e | ⟨g, e, hg⟩
      · left; exact foot_row (by rw [← e]; exact hx')
      · right; rw [e] at hx'; simp at hx'; omega
    · left
      simp only [foot, List.mem_append, List.mem_flatMap]
      exact .inr ⟨u, hu, hx⟩
    · right
      exact (hl.lt x (by simpa using hx)).1

set_option maxHeartbeats 2000000 in
set_option maxRecDepth 100000 in
theorem spot_new (base d p : Nat) (v : Value) (P : List Po) (pvs : List Value) (w : World) (h : PostIs w base v P pvs) (hne : wsF P d p = P ++ [(d, [p])]) (hlast : ∀ l, P.getLast? = some l → l.1 ≠ d) (hn : P.length ≤ 100000) (hb : base ≤ w.heap.size) (hd : d ≤ 2000000) (hp : p ≤ 2000000) :
    Calls Tryz.prog 168 #[v, .agg #[.int .i64 d, .int .i64 p]] w (SpotPost w base v P pvs d p) := by
  obtain ⟨i0, hi, hz0, hz1, hz2⟩ := info_parts info103
  obtain ⟨a, cap, rfl, ha⟩ := owns_forms h.row
  obtain ⟨W, hW⟩ : ∃ W, w.alloc (.cells #[.int .i64 (d : Int), .int .i64 (p : Int)] 234) = W := ⟨_, rfl⟩
  have kW : Kp [] w W := by rw [← hW]; exact (Kp.refl _ _).alloc _
  have hx : W.heap[w.heap.size]? = some (.cells #[.int .i64 (d : Int), .int .i64 (p : Int)] 234 (0, 0)) := by rw [← hW]; exact heap_alloc_new w _
  have hsW : W.heap.size = w.heap.size + 1 := by rw [← hW]; simp
  have HsW := hide hsW
  obtain ⟨p0, p1, _, _⟩ := rd_cells hx
  have hrow1 := kW.owns h.row (by simp)
  have HROW := hide hrow1
  have HH := hide h
  have Hne := hide hne
  have HX := hide hx
  clear h hne hx hrow1 hsW
  by_cases h0 : P.length = 0
  case' pos =>
    have hP0 : P = [] := List.eq_nil_of_length_eq_zero h0
    subst hP0
    clear h0 hlast
    go_enter Tryz.func168, Tryz.ntmps168
    go_wp2_with fail
    clear hW
    go_region
  case' neg =>
    have hpl : P.length - 1 < P.length := by omega
    have hpv : P.length - 1 < pvs.length := by rw [HH.out.len]; exact hpl
    obtain ⟨g, rfl⟩ := ha (by omega)
    have hcell := (HH.out.cells (P.length - 1) hpl hpv).1
    have hcell1 := kW.cellv hcell (by simp)
    have hlast' : P[P.length - 1].1 ≠ d := by
      apply hlast
      rw [List.getLast?_eq_getElem?, List.getElem?_eq_getElem hpl]
    obtain ⟨y, hy⟩ : ∃ y, P[P.length - 1].1 = y := ⟨_, rfl⟩
    rw [hy] at hcell1 hlast'
    have d1 : decide ((P.length : Int) - 1 < 0) = false := by simp; omega
    have d2 : ¬ ((P.length : Int) - 1 < 0) := by omega
    have i0' : (0 : Int) ≤ (P.length : Int) - 1 := by omega
    have i1' : (P.length : Int) - 1 < (P.length : Int) := by omega
    have i2' : ((P.length : Int) - 1).toNat = P.length - 1 := by omega
    have i3 : IntKind.i64.wrap ((P.length : Int) - 1) = (P.length : Int) - 1 := IntWalk.i64_in _ ⟨by omega, by omega⟩
    have d3 : ((y : Int) == (d : Int)) = false := by simp; omega
    clear hy hcell hlast
    go_enter Tryz.func168, Tryz.ntmps168
    go_wp2_with fail
    clear hW
    go_region
    clear d1 d2 i0' i1' i2' i3 d3 hcell1
  all_goals
    obtain ⟨W2, hW2⟩ : ∃ W2, W.drew = W2 := ⟨_, rfl⟩
    have kW2 : Kp [] W W2 := by rw [← hW2]; exact (Kp.refl _ _).drewN 1
    have hx2 := kW2.heap HX.out (by simp)
    obtain ⟨r0, r1, _, _⟩ := rd_cells hx2
    have hrow2 := kW2.owns HROW.out (by simp)
    have HROW2 := hide hrow2
    have hs2 : W2.heap.size = W.heap.size := by rw [← hW2]; rfl
    have Hs2 := hide hs2
    have kw2 : Kp [] w W2 := kW.next kW2
    rw [hW2]
    clear hW2 hx2 hrow2 hs2 p0 p1 HROW
    go_wp2_with (first
      | (at_builtin; refine wpList_append_own_at _ rfl _ _ 203 rfl base 242 i0 (.agg #[.int .i64 0, .slice none 0 0]) 2 32 Tryz.underlying203 hi hz0 hz1 hz2 rfl (by decide) _ _ _ rfl ((HROW2.out.alloc _).alloc _) ⟨W2.heap.size + 1, 0, none⟩ 1 1 [.int .i64 (d : Int), .slice (some ⟨W2.heap.size, 0, none⟩) 1 1] rfl rfl (World.news_of_block (cs := #[.int .i64 (d : Int), .slice (some ⟨W2.heap.size, 0, none⟩) 1 1]) (t := 242) (fr := (0, 0)) (by have := heap_alloc_new (W2.alloc (.cells #[.int .i64 (p : Int)] 3)) (.cells #[.int .i64 (d : Int), .slice (some ⟨W2.heap.size, 0, none⟩) 1 1] 242); simpa using this)) ?c2 ?c3 ?c4 ?c5 ?_)
      | fail)
    case c2 => intro u hu; simp at hu; rcases hu with rfl | rfl <;> rfl
    case c3 => unfold maxLen; omega
    case c4 => omega
    case c5 => have h1 := HsW.out; have h2 := Hs2.out; simp; omega
    intro v' w2 hown2 hgrow2 _ hloc
    have k2 : Kp _ (W2.alloc (.cells #[.int .i64 (p : Int)] 3)) w2 := ((Kp.refl _ _).alloc (.cells #[.int .i64 (d : Int), .slice (some ⟨W2.heap.size, 0, none⟩) 1 1] 242)).grown hgrow2 (fun j hj => .inl (by rw [Option.mem_toList]; exact hj))
    have hlit := World.ownsRow_lit (base := w.heap.size) (e := 3) (size := 1) W2 #[.int .i64 (p : Int)] 1 (by have h1 := HsW.out; have h2 := Hs2.out; omega) (by unfold maxLen; omega) rfl
    have hloc2 := hloc.imp_right (fun e => (⟨_, e, by have h1 := HsW.out; have h2 := Hs2.out; simp; omega⟩ : ∃ g, v'.ownBlock = some g ∧ w.heap.size ≤ g))
    have hend := spot_end HH.out Hne.out hb (kw2.alloc _) hlit (by simpa using hown2) k2 hloc2
    have HEND := hide hend
    obtain ⟨a2, c2, rfl, _⟩ := owns_forms hown2
    clear hend hlit hown2 hgrow2 k2 hloc hloc2
    go_wp2_with fail
    go_ret
    exact HEND.out
end Go.Proofs.YtnffagpdnklnkaaGreatDoor.Pak
