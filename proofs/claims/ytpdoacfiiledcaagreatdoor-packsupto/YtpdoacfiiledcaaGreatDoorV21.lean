import Derived.Test.YtpdoacfiiledcaaGreatDoorV20
import Derived.Test.YtpdoacfiiledcaaGreatDoorV14
import Derived.Deep.RegionHeld3
import Derived.BigQuiet
import Derived.Deep.QuietTactic

namespace Go.Proofs.YtpdoacfiiledcaaGreatDoor.Pak
open Go.RowKit Go.Proofs.YtpdoacfiiledcaaGreatDoor Go.Proofs.YtpdoacfiiledcaaGreatDoor.Spl SiftM Go.Sort
set_option linter.unusedVariables false

theorem put_heap {α : Type} [Inhabited α] (enc : α → Value) (w : World) (g m : Nat) (d : Array α) (os : Array Obj) {cur : Array Value} {e : TypeId} {fr : Nat × Nat} (hg : w.heap[g]? = some (.cells cur e fr)) :
    (Sort.grow (Sort.putRow enc (Sort.ahead w m) g 0 d) os).heap[g]? = some (.cells (Sort.putCells enc 0 d cur) e fr) := by
  have hlt := heap_lt hg
  rw [Sort.heap_grow_old _ _ (by simpa using hlt)]
  simp only [Sort.putRow, Sort.mapBlock, Sort.ahead, Array.getElem?_modify, if_true, hg, Option.map_some, Sort.onCells]
theorem put_kp {α : Type} [Inhabited α] (enc : α → Value) (w : World) (g m : Nat) (d : Array α) (os : Array Obj) : Kp [g] w (Sort.grow (Sort.putRow enc (Sort.ahead w m) g 0 d) os) := by
  refine ⟨rfl, rfl, rfl, by simp [Sort.ahead], fun k hk hn => ?_⟩
  rw [Sort.heap_grow_old _ _ (by simpa [Sort.ahead] using hk)]
  simp only [Sort.putRow, Sort.mapBlock, Sort.ahead, Array.getElem?_modify]
  rw [if_neg (by simp at hn; omega)]
theorem putCells_take {α : Type} [Inhabited α] (enc : α → Value) (d : Array α) (cur : Array Value) (h : d.size ≤ cur.size) : (Sort.putCells enc 0 d cur).toList.take d.size = d.toList.map enc := by
  apply List.ext_getElem?
  intro i
  rw [List.getElem?_take]
  by_cases hi : i < d.size
  · rw [if_pos hi]
    have hc : i < cur.size := by omega
    rw [Array.getElem?_toList]
    simp only [Sort.putCells, Array.getElem?_mapIdx, Array.getElem?_eq_getElem hc, Option.map_some, Nat.zero_le, Nat.zero_add, hi, and_self, if_true, Nat.sub_zero]
    simp [hi]
  · rw [if_neg hi]
    symm
    exact List.getElem?_eq_none (by simp; omega)
/-- A row behind the library's sorts. -/
theorem put_owns {α : Type} [Inhabited α] (enc : α → Value) {w : World} {base g n cap size : Nat} {e : TypeId} {xs : List Value} (h : w.ownsRow base e size (.slice (some ⟨g, 0, none⟩) n cap) n xs) (d : Array α) (hd : d.size = n * size) (m : Nat) (os : Array Obj) :
    (Sort.grow (Sort.putRow enc (Sort.ahead w m) g 0 d) os).ownsRow base e size (.slice (some ⟨g, 0, none⟩) n cap) n (d.toList.map enc) := by
  rcases h.2 with ⟨e1, _⟩ | ⟨g', cap', cur, e1, hb, hg, hn, hcm, hcs, ht⟩
  · simp at e1
  · simp at e1
    obtain ⟨rfl, rfl⟩ := e1
    refine ⟨by simp [hd], .inr ⟨g, cap, _, rfl, hb, put_heap enc w g m d os hg, hn, hcm, by simp [Sort.putCells, hcs], ?_⟩⟩
    rw [← hd]
    exact putCells_take enc d cur (by rw [hd, hcs]; exact Nat.mul_le_mul_right _ hn)
theorem owns_shrink {w : World} {base g n n' cap size : Nat} {e : TypeId} {xs : List Value} (h : w.ownsRow base e size (.slice (some ⟨g, 0, none⟩) n cap) n xs) (hn : n' ≤ n) : w.ownsRow base e size (.slice (some ⟨g, 0, none⟩) n' cap) n' (xs.take (n' * size)) := by
  rcases h.2 with ⟨e1, _⟩ | ⟨g', cap', cur, e1, hb, hg, hn', hcm, hcs, ht⟩
  · simp at e1
  · simp at e1
    obtain ⟨rfl, rfl⟩ := e1
    have hm : n' * size ≤ n * size := Nat.mul_le_mul_right _ hn
    refine ⟨by rw [List.length_take, h.1]; omega, .inr ⟨g, cap, cur, rfl, hb, hg, by omega, hcm, hcs, ?_⟩⟩
    rw [← ht, List.take_take, Nat.min_eq_left hm]

abbrev Dc := Int × ByteArray
def encDoc (x : Dc) : List Value := [.int .i64 x.1, .string x.2]
def docV (D : List Dc) : List Value := D.flatMap encDoc
theorem docV_len (D : List Dc) : (docV D).length = D.length * 2 := by
  induction D with
  | nil => rfl
  | cons x r ih => simp [docV, encDoc] at ih ⊢; omega
theorem docV_get : ∀ (D : List Dc) (i : Nat) (h : i < D.length), (docV D)[i * 2]? = some (.int .i64 D[i].1) ∧ (docV D)[i * 2 + 1]? = some (.string D[i].2)
  | x :: r, 0, h => by simp [docV, encDoc]
  | x :: r, i + 1, h => by
    have ih := docV_get r i (by simpa using h)
    have e : docV (x :: r) = .int .i64 x.1 :: .string x.2 :: docV r := by simp [docV, encDoc]
    rw [e, show (i + 1) * 2 = i * 2 + 2 by omega, show i * 2 + 2 + 1 = i * 2 + 1 + 2 by omega]
    simpa using ih
theorem flat_docV (d : Array Dc) : (Sort.flatK encDoc 2 d).toList = docV d.toList := by
  apply List.ext_getElem?
  intro t
  by_cases ht : t < d.size * 2
  · have h1 := Sort.get_flatK encDoc 2 d t ht
    have hs : t < (Sort.flatK encDoc 2 d).size := by rw [Sort.size_flatK]; exact ht
    rw [Array.getElem?_toList, Array.getElem?_eq_getElem hs]
    rw [getElem!_pos _ t hs] at h1
    rw [h1]
    have hq : t / 2 < d.toList.length := by simp; omega
    have hg := docV_get d.toList (t / 2) hq
    have hd : d[t / 2]! = d.toList[t / 2] := by rw [getElem!_pos d (t / 2) (by simpa using hq)]; simp
    have : t % 2 = 0 ∨ t % 2 = 1 := by omega
    rcases this with e | e
    · have h3 := hg.1
      rw [show t / 2 * 2 = t by omega] at h3
      rw [h3, e, hd]
      rfl
    · have e2 : t = t / 2 * 2 + 1 := by omega
      have h3 := hg.2
      rw [← e2] at h3
      rw [h3, e, hd]
      rfl
  · rw [List.getElem?_eq_none (by simp; omega), List.getElem?_eq_none (by rw [docV_len]; simp; omega)]
end Go.Proofs.YtpdoacfiiledcaaGreatDoor.Pak

namespace Go.Proofs.YtpdoacfiiledcaaGreatDoor.Pak
open Go.RowKit Go.Proofs.YtpdoacfiiledcaaGreatDoor Go.Proofs.YtpdoacfiiledcaaGreatDoor.Spl SiftM Go.Sort
set_option linter.unusedVariables false

theorem info43 : (Tryz.prog.info? 261).map (fun i => (i.zero, i.size, i.bytes)) = some (some (.agg #[.int .i64 0, .string ⟨#[]⟩]), 2, 24) := by kernel_rfl

set_option maxHeartbeats 800000 in
set_option maxRecDepth 100000 in
theorem clone_any (B : Nat) (v : Value) (D : List Dc) (w : World) (h : w.ownsRow B 261 2 v D.length (docV D)) (hn : D.length ≤ 2000000) :
    Calls Tryz.prog 282 #[v] w fun e w' => ∃ v', e = .returned v' ∧ w'.ownsRow w.heap.size 261 2 v' D.length (docV D) ∧ Kp [] w w' := by
  obtain ⟨i0, hi, hz0, hz1, hz2⟩ := info_parts info43
  have q32 : ∀ (w : World) (a : Option Addr) (n c n' c' : Nat), (binOp .eql 66 (.slice a n c) (.slice none n' c')).run Tryz.prog w = .ok (.bool a.isNone) w := fun w a n c n' c' => Lib.run_eql_slice_nil w _ _ a n c n' c' Tryz.underlying66
  rcases h.2 with ⟨rfl, h0⟩ | ⟨g, cap, cur, rfl, hb, hg, rest⟩
  · have hD : D = [] := List.eq_nil_of_length_eq_zero h0
    subst hD
    go_enter Tryz.func282, Tryz.ntmps282
    go_wp2_with fail
    go_ret
    exact ⟨_, rfl, World.ownsRow_nil _ _ _ _, Kp.refl _ _⟩
  · have HH := hide h
    have hob := World.ownsRow_made (base := w.heap.size) (e := 261) (size := 2) w #[] 0 (Nat.le_refl _) (by unfold maxLen; omega) (by simp)
    have hoc := (h.alloc (.cells #[] 261)).cells (g := g) rfl
    have h1c : ∀ u ∈ docV D, u.oneCell' = true := by
      intro u hu
      simp only [docV, List.mem_flatMap] at hu
      obtain ⟨x, _, hx⟩ := hu
      simp [encDoc] at hx
      rcases hx with rfl | rfl <;> rfl
    have HOB := hide hob
    have HOC := hide hoc
    have H1C := hide h1c
    have HL := hide (docV_len D)
    clear h hob hoc h1c hg rest
    go_enter Tryz.func282, Tryz.ntmps282
    go_wp2_with (first
      | (at_builtin; refine wpList_append_own_at _ rfl _ _ 66 rfl w.heap.size 261 i0 (.agg #[.int .i64 0, .string ⟨#[]⟩]) 2 24 Tryz.underlying66 hi hz0 hz1 hz2 rfl (by decide) _ _ _ rfl HOB.out ⟨g, 0, none⟩ D.length cap (docV D) rfl HL.out HOC.out H1C.out ?c1 ?c2 ?c3 ?_)
      | fail)
    case c1 => unfold maxLen; omega
    case c2 => omega
    case c3 => simp
    intro v2 w2 hown2 hgrow2 _ _
    have ho2 : w2.ownsRow w.heap.size 261 2 v2 D.length (docV D) := by simpa using hown2
    have HO2 := hide ho2
    obtain ⟨a2, cap2, rfl, _⟩ := owns_forms HO2.out
    clear hown2 ho2
    go_wp2_with fail
    go_ret
    refine ⟨_, rfl, HO2.out, ((Kp.refl [] w).alloc _).grown hgrow2 (by intro k hk; simp [Value.ownBlock] at hk; right; omega)⟩

set_option maxHeartbeats 2000000 in
theorem cmp25 (x y : Dc) (W : World) : Calls Tryz.prog 284 #[.agg #[.int .i64 x.1, .string x.2], .agg #[.int .i64 y.1, .string y.2]] W fun e w' => e = .returned (.int .i64 (Lib.compareInt x.1 y.1)) ∧ ∃ q os', w' = Sort.grow (W.drewN q) os' := by
  have hcon := fun W' => Tryz.cmp_Compare_int x.1 y.1 W'
  generalize Lib.compareInt x.1 y.1 = r at hcon ⊢
  go_enter Tryz.func284, Tryz.ntmps284
  go_wp2_with (go_at_call 259; refine (hcon _).mono ?_; rintro e w' ⟨rfl, rfl⟩)
  go_ret
  exact ⟨rfl, 0, _, by rw [Sort.alloc_eq_grow, Sort.alloc_eq_grow, Sort.grow_grow]; rfl⟩

theorem cmpLays25 (blk off size : Nat) (w : World) : CmpLays Tryz.prog 284 #[] encDoc 2 (fun x y : Dc => Lib.compareInt x.1 y.1) blk off size w :=
  fun _ _ _ _ x y => cmp25 x y _
theorem ltDoc (x y : Dc) : ltOf (fun x y : Dc => Lib.compareInt x.1 y.1) x y = decide (x.1 < y.1) := by
  unfold ltOf Lib.compareInt
  by_cases h1 : x.1 < y.1
  · simp [h1]
  · by_cases h2 : y.1 < x.1 <;> simp [h1, h2]
theorem swoDoc : SWO (ltOf fun x y : Dc => Lib.compareInt x.1 y.1) where
  irrefl x := by rw [ltDoc]; simp
  trans x y z h1 h2 := by rw [ltDoc] at *; simp at *; omega
  ntrans x y z h1 h2 := by rw [ltDoc] at *; simp at *; omega

/-- Docs that are those of D, in the order of their ids. -/
def SortOf (D D' : List Dc) : Prop := D'.Perm D ∧ D'.Pairwise fun x y => x.1 ≤ y.1

theorem holds_docs {w : World} {B g n cap : Nat} {D : List Dc} (h : w.ownsRow B 261 2 (.slice (some ⟨g, 0, none⟩) n cap) n (docV D)) (hl : D.length = n) : HoldsK encDoc 2 w g 0 D.toArray := by
  intro j hj
  rw [Sort.size_flatK] at hj
  rcases h.2 with ⟨e1, _⟩ | ⟨g', cap', cur, e1, hb, hg, hn', hcm, hcs, ht⟩
  · simp at e1
  · simp at e1
    obtain ⟨rfl, rfl⟩ := e1
    have hf := flat_docV D.toArray
    have hs : j < (Sort.flatK encDoc 2 D.toArray).size := by rw [Sort.size_flatK]; exact hj
    constructor
    · have hget : (docV D)[j]? = some ((Sort.flatK encDoc 2 D.toArray)[j]!) := by
        rw [← hf, Array.getElem?_toList, getElem!_pos _ j hs, Array.getElem?_eq_getElem hs]
      have hc := h.cells (g := g) rfl j _ hget
      have e : (⟨g, 0, none⟩ : Addr).add j = ⟨g, j, none⟩ := by unfold Addr.add; split <;> simp_all
      rw [e] at hc
      simpa using hc
    · simp [World.frozen?, hg]

set_option maxHeartbeats 2000000 in
set_option maxRecDepth 100000 in
theorem byId_any (B : Nat) (v : Value) (D : List Dc) (w : World) (h : w.ownsRow B 261 2 v D.length (docV D)) (hn : D.length ≤ 2000000) :
    Calls Tryz.prog 174 #[v] w fun e w' => ∃ v' D', e = .returned v' ∧ w'.ownsRow w.heap.size 261 2 v' D.length (docV D') ∧ SortOf D D' ∧ Kp [] w w' := by
  have hC := hide (clone_any B v D w h hn)
  obtain ⟨a0, c0, rfl, _⟩ := owns_forms h
  clear h
  go_enter Tryz.func174, Tryz.ntmps174
  go_wp2_with fail
  refine hC.out.mono ?_
  rintro e w1 ⟨v1, rfl, ho1, hk1⟩
  rcases ho1.2 with ⟨rfl, h0⟩ | ⟨g, cap, cur, rfl, hb, hg, rest⟩
  · have hD : D = [] := List.eq_nil_of_length_eq_zero h0
    subst hD
    have hS := AnyF.slices_SortFunc_none { Tryz.sortDoc with } none 0 (.func (.func 284) #[] #[]) w1
    change Calls Tryz.prog 283 _ _ _ at hS
    have HS := hide hS
    clear hS
    go_wp2_with fail
    refine HS.out.mono ?_
    rintro e w2 ⟨rfl, rfl⟩
    go_wp2_with fail
    go_ret
    exact ⟨_, [], rfl, World.ownsRow_nil _ _ _ _, ⟨List.Perm.refl _, List.Pairwise.nil⟩, hk1⟩
  · have eg : ∀ args w, (callFunc 284 args).run Tryz.prog w = .ok (.enter 284 args) w := enters_of Tryz.func284 (by kernel_rfl) rfl
    have hH := holds_docs ho1 rfl
    have hcon := AnyQ.slices_SortFunc Tryz.sortDoc 2 Tryz.isAgg261 Tryz.sizeOf261 encDoc (fun _ => rfl) (fun x v hv => by simp [encDoc] at hv; rcases hv with rfl | rfl <;> rfl) (fun x y : Dc => Lib.compareInt x.1 y.1) swoDoc 284 #[] g 0 cap D.toArray w1 eg (cmpLays25 g 0 D.toArray.size w1) hH (heap_lt hg) (by simp; omega)
    change Calls Tryz.prog 283 _ _ _ at hcon
    simp only [List.size_toArray] at hcon
    have HC := hide hcon
    have HO := hide ho1
    clear hcon hH ho1 hg rest eg
    go_wp2_with fail
    refine HC.out.mono ?_
    rintro e w2 ⟨rfl, d', n, os, hp, hs, rfl⟩
    go_wp2_with fail
    go_ret
    have hsz : d'.size = D.length := by have := hp.1; simpa using this
    refine ⟨_, d'.toList, rfl, ?_, ⟨?_, ?_⟩, ?_⟩
    · have := put_owns id HO.out (Sort.flatK encDoc 2 d') (by rw [Sort.size_flatK, hsz]) n os
      rw [List.map_id, flat_docV] at this
      exact this
    · have := hp.2.2
      have e1 : d'.extract 0 D.length = d' := by rw [← hsz]; simp
      have e2 : D.toArray.extract 0 D.length = D.toArray := by
        have : D.length = D.toArray.size := by simp
        rw [this]; simp
      rw [e1, e2] at this
      simpa using this
    · rw [List.pairwise_iff_getElem]
      intro i j hi hj hij
      have h1 := hs i j (Nat.zero_le _) hij (by simp at hj; omega)
      rw [ltDoc] at h1
      simp at hi hj
      rw [getElem!_pos d' i hi, getElem!_pos d' j hj] at h1
      simp at h1
      simpa using h1
    · exact hk1.trans (put_kp id w1 g n (Sort.flatK encDoc 2 d') os) (by simpa using hb)
end Go.Proofs.YtpdoacfiiledcaaGreatDoor.Pak

namespace Go.Proofs.YtpdoacfiiledcaaGreatDoor.Pak
open Go.RowKit Go.Proofs.YtpdoacfiiledcaaGreatDoor Go.Proofs.YtpdoacfiiledcaaGreatDoor.Spl SiftM
set_option linter.unusedVariables false

def idsB : Option Int → List Dc → Bool
  | _, [] => true
  | p, x :: r => if x.1 < 0 ∨ 99999 < x.1 ∨ p = some x.1 then false else idsB (some x.1) r
def prevOf (D : List Dc) (k : Nat) : Option Int := if k = 0 then none else (D[k - 1]?).map Prod.fst
theorem docs_cells {w : World} {B g n cap : Nat} {D : List Dc} (h : w.ownsRow B 261 2 (.slice (some ⟨g, 0, none⟩) n cap) n (docV D)) (i : Nat) (hi : i < D.length) :
    w.cell? ⟨g, i * 2, none⟩ = some (.int .i64 D[i].1) ∧ w.cell? ⟨g, i * 2 + 1, none⟩ = some (.string D[i].2) := by
  have hg := docV_get D i hi
  have ea : ∀ j, (⟨g, 0, none⟩ : Addr).add j = ⟨g, j, none⟩ := by intro j; unfold Addr.add; split <;> simp_all
  have c0 := h.cells (g := g) rfl _ _ hg.1
  have c1 := h.cells (g := g) rfl _ _ hg.2
  rw [ea] at c0 c1
  exact ⟨c0, c1⟩

set_option maxHeartbeats 400000 in
theorem idmay_any (id : Int) (b : Bool) (hb : (decide (0 ≤ id) && decide (id ≤ 99999)) = b) (w : World) :
    Calls Tryz.prog 139 #[.int .i64 id] w fun e w' => e = .returned (.bool b) ∧ w' = w := by
  have HB := hide hb
  clear hb
  by_cases h1 : (0 : Int) ≤ id
  · by_cases h2 : id ≤ 99999
    · go_enter Tryz.func139, Tryz.ntmps139
      go_wp2_with fail
      go_ret
      exact ⟨ret_bool (by rw [← HB.out]; simp; omega), rfl⟩
    · go_enter Tryz.func139, Tryz.ntmps139
      go_wp2_with fail
      go_ret
      exact ⟨ret_bool (by rw [← HB.out]; simp; omega), rfl⟩
  · go_enter Tryz.func139, Tryz.ntmps139
    go_wp2_with fail
    go_ret
    exact ⟨ret_bool (by rw [← HB.out]; simp; omega), rfl⟩

set_option maxHeartbeats 2000000 in
set_option maxRecDepth 100000 in
theorem ids_any (B : Nat) (v : Value) (D : List Dc) (w : World) (h : w.ownsRow B 261 2 v D.length (docV D)) (hn : D.length ≤ 2000000) :
    Calls Tryz.prog 175 #[v] w fun e w' => e = .returned (.bool (idsB none D)) ∧ Kp [] w w' := by
  obtain ⟨a, cap, rfl, ha⟩ := owns_forms h
  obtain ⟨res, hres⟩ : ∃ res, idsB none D = res := ⟨_, rfl⟩
  rw [hres]
  have HR := hide hres
  have HH := hide h
  clear h hres
  go_enter Tryz.func175, Tryz.ntmps175
  go_wp2_with fail
  go_loopw [7] (fun iv wr => ∃ k : Nat, k ≤ D.length ∧ iv = .int .i64 k ∧ idsB (prevOf D k) (D.drop k) = res ∧ Kp [] w wr) (fun iv _ => D.length - (intOf iv).toNat)
  case atStart => exact ⟨0, by omega, rfl, HR.out, Kp.refl _ _⟩
  case round =>
    obtain ⟨k, hk, rfl, hd, hkp⟩ := hrel
    by_cases hlt : k < D.length
    · obtain ⟨g, rfl⟩ := ha (by omega)
      have ho := hkp.owns HH.out (by simp)
      obtain ⟨q0, q1⟩ := docs_cells ho k hlt
      have hdk : D.drop k = D[k] :: D.drop (k + 1) := List.drop_eq_getElem_cons hlt
      rw [hdk] at hd
      have hpn : Hid (prevOf D (k + 1) = some D[k].1) := by show _ = _; simp [prevOf, hlt]
      have hpp : 0 < k → w.heap.size ≤ w.heap.size ∧ ∃ y, prevOf D k = some y ∧ wr.cell? ⟨g, (k - 1) * 2, none⟩ = some (.int .i64 y) := by
        intro h0
        have hk1 : k - 1 < D.length := by omega
        refine ⟨Nat.le_refl _, D[k - 1].1, ?_, (docs_cells ho (k - 1) hk1).1⟩
        unfold prevOf
        rw [if_neg (by omega), List.getElem?_eq_getElem hk1]; rfl
      obtain ⟨x, hx⟩ : ∃ x, D[k] = x := ⟨_, rfl⟩
      rw [hx] at q0 q1 hd hpn
      obtain ⟨id, bd⟩ := x
      simp only at q0 q1 hpn
      have HD := hide hd
      have HPP := hide hpp
      clear hd hdk hx ho hpp
      obtain ⟨W, hW⟩ : ∃ W, wr.alloc (.cells #[.int .i64 id, .string bd] 261) = W := ⟨_, rfl⟩
      have kW : Kp [] wr W := by rw [← hW]; exact (Kp.refl _ _).alloc _
      have hb : W.heap[wr.heap.size]? = some (.cells #[.int .i64 id, .string bd] 261 (0, 0)) := by rw [← hW]; exact heap_alloc_new wr _
      obtain ⟨p0, p1, _, _⟩ := rd_cells hb
      have hkW := hkp.next kW
      clear hb
      by_cases h1 : id < 0
      · have hr : Hid (res = false) := by
          have := HD.out
          simp only [idsB] at this
          rw [if_pos (.inl h1)] at this
          exact this.symm
        have d1 : decide (id < 0) = true := by simpa using h1
        go_wp2_with fail
        clear hW
        go_quiet ((go_at_call 139; exact Calls.quiet_of_same (idmay_any _ false (by simp; try omega) _)))
        go_wp2_with fail
        go_ret
        exact ⟨ret_bool hr.out.symm, hkW.drewN _⟩
      · have d1 : decide (id < 0) = false := by simpa using h1
        by_cases h2 : 99999 < id
        · have hr : Hid (res = false) := by
            have := HD.out
            simp only [idsB] at this
            rw [if_pos (.inr (.inl h2))] at this
            exact this.symm
          have d2 : decide (99999 < id) = true := by simpa using h2
          go_wp2_with fail
          clear hW
          go_quiet ((go_at_call 139; exact Calls.quiet_of_same (idmay_any _ false (by simp; try omega) _)))
          go_wp2_with fail
          go_ret
          exact ⟨ret_bool hr.out.symm, hkW.drewN _⟩
        · have d2 : decide (99999 < id) = false := by simpa using h2
          by_cases h3 : 0 < k
          · obtain ⟨_, y, hy1, hy2⟩ := HPP.out h3
            have d3 : decide ((0 : Int) < (k : Int)) = true := by simp; omega
            have i0 : (0 : Int) ≤ (k : Int) - 1 := by omega
            have i1 : (k : Int) - 1 < (D.length : Int) := by omega
            have i2 : ((k : Int) - 1).toNat = k - 1 := by omega
            have i3 : IntKind.i64.wrap ((k : Int) - 1) = (k : Int) - 1 := IntWalk.i64_in _ ⟨by omega, by omega⟩
            have hy3 := kW.cellv hy2 (by simp)
            have i4 : (0 : Int) < (k : Int) := by omega
            clear hy2
            by_cases h4 : y = id
            · have hr : Hid (res = false) := by
                have := HD.out
                simp only [idsB] at this
                rw [if_pos (.inr (.inr (by rw [hy1, h4])))] at this
                exact this.symm
              have d4 : (y == id) = true := by simpa using h4
              have Hy1 := hide hy1
              clear hy1 h4
              go_wp2_with fail
              clear hW
              go_quiet ((go_at_call 139; exact Calls.quiet_of_same (idmay_any _ true (by simp; try omega) _)))
              go_wp2_with fail
              go_ret
              exact ⟨ret_bool hr.out.symm, hkW.drewN _⟩
            · have hr : Hid (idsB (some id) (D.drop (k + 1)) = res) := by
                have := HD.out
                simp only [idsB] at this
                rw [if_neg (by rw [hy1]; simp; exact ⟨by omega, by omega, h4⟩)] at this
                exact this
              have d4 : (y == id) = false := by simpa using h4
              have Hy1 := hide hy1
              clear hy1 h4
              go_wp2_with fail
              clear hW
              go_quiet ((go_at_call 139; exact Calls.quiet_of_same (idmay_any _ true (by simp; try omega) _)))
              go_wp2_with fail
              go_roundw
              case rel => exact ⟨k + 1, by omega, by go_num, by rw [hpn.out]; exact hr.out, hkW.drewN _⟩
              case measure => simp [intOf]; omega
          · have ek : k = 0 := by omega
            subst ek
            have hr : Hid (idsB (some id) (D.drop (0 + 1)) = res) := by
              have := HD.out
              simp only [idsB, prevOf] at this
              rw [if_neg (by simp; omega)] at this
              exact this
            go_wp2_with fail
            clear hW
            go_quiet ((go_at_call 139; exact Calls.quiet_of_same (idmay_any _ true (by simp; try omega) _)))
            go_wp2_with fail
            go_roundw
            case rel => exact ⟨0 + 1, by omega, by go_num, by rw [hpn.out]; exact hr.out, hkW.drewN _⟩
            case measure => simp [intOf]; omega
    · have ek : k = D.length := by omega
      subst ek
      rw [List.drop_length] at hd
      have hd2 : true = res := by simpa [idsB] using hd
      have HD := hide hd2
      clear hd hd2
      go_wp2_with fail
      go_ret
      exact ⟨ret_bool HD.out, hkp⟩
end Go.Proofs.YtpdoacfiiledcaaGreatDoor.Pak
