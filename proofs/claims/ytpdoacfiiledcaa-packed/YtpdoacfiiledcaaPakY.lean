import Derived.Test.YtpdoacfiiledcaaPakX
namespace Go.Proofs.Ytpdoacfiiledcaa.Pak
open Go.RowKit Go.Proofs.Ytpdoacfiiledcaa SiftM Go.Sort
set_option linter.unusedVariables false

theorem info43 : (Try.prog.info? 43).map (fun i => (i.zero, i.size, i.bytes)) = some (some (.agg #[.int .i64 0, .string ⟨#[]⟩]), 2, 24) := by kernel_rfl

set_option maxHeartbeats 800000 in
set_option maxRecDepth 100000 in
theorem clone_any (B : Nat) (v : Value) (D : List Dc) (w : World) (h : w.ownsRow B 43 2 v D.length (docV D)) (hn : D.length ≤ 1000000) :
    Calls Try.prog 23 #[v] w fun e w' => ∃ v', e = .returned v' ∧ w'.ownsRow w.heap.size 43 2 v' D.length (docV D) ∧ Kp [] w w' := by
  obtain ⟨i0, hi, hz0, hz1, hz2⟩ := info_parts info43
  have q32 : ∀ (w : World) (a : Option Addr) (n c n' c' : Nat), (binOp .eql 32 (.slice a n c) (.slice none n' c')).run Try.prog w = .ok (.bool a.isNone) w := fun w a n c n' c' => Lib.run_eql_slice_nil w _ _ a n c n' c' Try.underlying32
  rcases h.2 with ⟨rfl, h0⟩ | ⟨g, cap, cur, rfl, hb, hg, rest⟩
  · have hD : D = [] := List.eq_nil_of_length_eq_zero h0
    subst hD
    go_enter Try.func23, Try.ntmps23
    go_wp2_with fail
    go_ret
    exact ⟨_, rfl, World.ownsRow_nil _ _ _ _, Kp.refl _ _⟩
  · have HH := hide h
    have hob := World.ownsRow_made (base := w.heap.size) (e := 43) (size := 2) w #[] 0 (Nat.le_refl _) (by unfold maxLen; omega) (by simp)
    have hoc := (h.alloc (.cells #[] 43)).cells (g := g) rfl
    have h1c : ∀ u ∈ docV D, u.oneCell' = true := by
      intro u hu
      simp only [docV, List.mem_flatMap] at hu
      obtain ⟨x, _, hx⟩ := hu
      simp [encDoc] at hx
      rcases hx with rfl | rfl <;> rfl
    have HOB := hide hob
    have HOC := hide hoc
    have H1C := hide h1c
    have HL := hide (docV_len D)
    clear h hob hoc h1c hg rest
    go_enter Try.func23, Try.ntmps23
    go_wp2_with (first
      | (at_builtin; refine wpList_append_own_at _ rfl _ _ 32 rfl w.heap.size 43 i0 (.agg #[.int .i64 0, .string ⟨#[]⟩]) 2 24 Try.underlying32 hi hz0 hz1 hz2 rfl (by decide) _ _ _ rfl HOB.out ⟨g, 0, none⟩ D.length cap (docV D) rfl HL.out HOC.out H1C.out ?c1 ?c2 ?c3 ?_)
      | fail)
    case c1 => unfold maxLen; omega
    case c2 => omega
    case c3 => simp
    intro v2 w2 hown2 hgrow2 _ _
    have ho2 : w2.ownsRow w.heap.size 43 2 v2 D.length (docV D) := by simpa using hown2
    have HO2 := hide ho2
    obtain ⟨a2, cap2, rfl, _⟩ := owns_forms HO2.out
    clear hown2 ho2
    go_wp2_with fail
    go_ret
    refine ⟨_, rfl, HO2.out, ((Kp.refl [] w).alloc _).grown hgrow2 (by intro k hk; simp [Value.ownBlock] at hk; right; omega)⟩

set_option maxHeartbeats 1000000 in
theorem cmp25 (x y : Dc) (W : World) : Calls Try.prog 25 #[.agg #[.int .i64 x.1, .string x.2], .agg #[.int .i64 y.1, .string y.2]] W fun e w' => e = .returned (.int .i64 (Lib.compareInt x.1 y.1)) ∧ ∃ q os', w' = Sort.grow (W.drewN q) os' := by
  have hcon := fun W' => Try.cmp_Compare_int x.1 y.1 W'
  generalize Lib.compareInt x.1 y.1 = r at hcon ⊢
  go_enter Try.func25, Try.ntmps25
  go_wp2_with (go_at_call 26; refine (hcon _).mono ?_; rintro e w' ⟨rfl, rfl⟩)
  go_ret
  exact ⟨rfl, 0, _, by rw [Sort.alloc_eq_grow, Sort.alloc_eq_grow, Sort.grow_grow]; rfl⟩

theorem cmpLays25 (blk off size : Nat) (w : World) : CmpLays Try.prog 25 #[] encDoc 2 (fun x y : Dc => Lib.compareInt x.1 y.1) blk off size w :=
  fun _ _ _ _ x y => cmp25 x y _
theorem ltDoc (x y : Dc) : ltOf (fun x y : Dc => Lib.compareInt x.1 y.1) x y = decide (x.1 < y.1) := by
  unfold ltOf Lib.compareInt
  by_cases h1 : x.1 < y.1
  · simp [h1]
  · by_cases h2 : y.1 < x.1 <;> simp [h1, h2]
theorem swoDoc : SWO (ltOf fun x y : Dc => Lib.compareInt x.1 y.1) where
  irrefl x := by rw [ltDoc]; simp
  trans x y z h1 h2 := by rw [ltDoc] at *; simp at *; omega
  ntrans x y z h1 h2 := by rw [ltDoc] at *; simp at *; omega

/-- Docs that are those of D, in the order of their ids. -/
def SortOf (D D' : List Dc) : Prop := D'.Perm D ∧ D'.Pairwise fun x y => x.1 ≤ y.1

theorem holds_docs {w : World} {B g n cap : Nat} {D : List Dc} (h : w.ownsRow B 43 2 (.slice (some ⟨g, 0, none⟩) n cap) n (docV D)) (hl : D.length = n) : HoldsK encDoc 2 w g 0 D.toArray := by
  intro j hj
  rw [Sort.size_flatK] at hj
  rcases h.2 with ⟨e1, _⟩ | ⟨g', cap', cur, e1, hb, hg, hn', hcm, hcs, ht⟩
  · simp at e1
  · simp at e1
    obtain ⟨rfl, rfl⟩ := e1
    have hf := flat_docV D.toArray
    have hs : j < (Sort.flatK encDoc 2 D.toArray).size := by rw [Sort.size_flatK]; exact hj
    constructor
    · have hget : (docV D)[j]? = some ((Sort.flatK encDoc 2 D.toArray)[j]!) := by
        rw [← hf, Array.getElem?_toList, getElem!_pos _ j hs, Array.getElem?_eq_getElem hs]
      have hc := h.cells (g := g) rfl j _ hget
      have e : (⟨g, 0, none⟩ : Addr).add j = ⟨g, j, none⟩ := by unfold Addr.add; split <;> simp_all
      rw [e] at hc
      simpa using hc
    · simp [World.frozen?, hg]

set_option maxHeartbeats 1000000 in
set_option maxRecDepth 100000 in
theorem byId_any (B : Nat) (v : Value) (D : List Dc) (w : World) (h : w.ownsRow B 43 2 v D.length (docV D)) (hn : D.length ≤ 1000000) :
    Calls Try.prog 16 #[v] w fun e w' => ∃ v' D', e = .returned v' ∧ w'.ownsRow w.heap.size 43 2 v' D.length (docV D') ∧ SortOf D D' ∧ Kp [] w w' := by
  have hC := hide (clone_any B v D w h hn)
  obtain ⟨a0, c0, rfl, _⟩ := owns_forms h
  clear h
  go_enter Try.func16, Try.ntmps16
  go_wp2_with fail
  refine hC.out.mono ?_
  rintro e w1 ⟨v1, rfl, ho1, hk1⟩
  rcases ho1.2 with ⟨rfl, h0⟩ | ⟨g, cap, cur, rfl, hb, hg, rest⟩
  · have hD : D = [] := List.eq_nil_of_length_eq_zero h0
    subst hD
    have hS := AnyF.slices_SortFunc_none { Try.sortDoc with } none 0 (.func (.func 25) #[] #[]) w1
    change Calls Try.prog 24 _ _ _ at hS
    have HS := hide hS
    clear hS
    go_wp2_with fail
    refine HS.out.mono ?_
    rintro e w2 ⟨rfl, rfl⟩
    go_wp2_with fail
    go_ret
    exact ⟨_, [], rfl, World.ownsRow_nil _ _ _ _, ⟨List.Perm.refl _, List.Pairwise.nil⟩, hk1⟩
  · have eg : ∀ args w, (callFunc 25 args).run Try.prog w = .ok (.enter 25 args) w := enters_of Try.func25 (by kernel_rfl) rfl
    have hH := holds_docs ho1 rfl
    have hcon := AnyQ.slices_SortFunc Try.sortDoc 2 Try.isAgg43 Try.sizeOf43 encDoc (fun _ => rfl) (fun x v hv => by simp [encDoc] at hv; rcases hv with rfl | rfl <;> rfl) (fun x y : Dc => Lib.compareInt x.1 y.1) swoDoc 25 #[] g 0 cap D.toArray w1 eg (cmpLays25 g 0 D.toArray.size w1) hH (heap_lt hg) (by simp; omega)
    change Calls Try.prog 24 _ _ _ at hcon
    simp only [List.size_toArray] at hcon
    have HC := hide hcon
    have HO := hide ho1
    clear hcon hH ho1 hg rest eg
    go_wp2_with fail
    refine HC.out.mono ?_
    rintro e w2 ⟨rfl, d', n, os, hp, hs, rfl⟩
    go_wp2_with fail
    go_ret
    have hsz : d'.size = D.length := by have := hp.1; simpa using this
    refine ⟨_, d'.toList, rfl, ?_, ⟨?_, ?_⟩, ?_⟩
    · have := put_owns id HO.out (Sort.flatK encDoc 2 d') (by rw [Sort.size_flatK, hsz]) n os
      rw [List.map_id, flat_docV] at this
      exact this
    · have := hp.2.2
      have e1 : d'.extract 0 D.length = d' := by rw [← hsz]; simp
      have e2 : D.toArray.extract 0 D.length = D.toArray := by
        have : D.length = D.toArray.size := by simp
        rw [this]; simp
      rw [e1, e2] at this
      simpa using this
    · rw [List.pairwise_iff_getElem]
      intro i j hi hj hij
      have h1 := hs i j (Nat.zero_le _) hij (by simp at hj; omega)
      rw [ltDoc] at h1
      simp at hi hj
      rw [getElem!_pos d' i hi, getElem!_pos d' j hj] at h1
      simp at h1
      simpa using h1
    · exact hk1.trans (put_kp id w1 g n (Sort.flatK encDoc 2 d') os) (by simpa using hb)
end Go.Proofs.Ytpdoacfiiledcaa.Pak
