import Derived.Test.YtnffagpdnklnkaaGreatDoorV25
import Derived.Test.YtnffagpdnklnkaaGreatDoorV11
import Derived.Test.YtnffagpdnklnkaaGreatDoorV23
import Derived.OrdersHeld
import Derived.OrdersIn
set_option linter.unusedVariables false
set_option linter.unusedSimpArgs false
set_option maxRecDepth 8000
namespace Go.Proofs.YtnffagpdnklnkaaGreatDoor.Pak
open Go.RowKit Go.Proofs.YtnffagpdnklnkaaGreatDoor Go.Proofs.YtnffagpdnklnkaaGreatDoor.Spl SiftM Go.Maps Go.Sort Go.Shelf
theorem sortN_lt (l : List (List UInt8)) (h : l.Nodup) : (sortN l).Pairwise (· < ·) := by
  have h1 : (sortN l).Pairwise (· ≤ ·) := sort_le l
  have h2 : (sortN l).Nodup := (List.mergeSort_perm l _).nodup_iff.2 h
  have h3 : (sortN l).Pairwise (fun a b => a ≤ b ∧ a ≠ b) := List.Pairwise.and h1 h2
  exact h3.imp fun ⟨a, b⟩ => lt_of _ _ a b
theorem sortN_mem (l : List (List UInt8)) (x : List UInt8) : x ∈ sortN l ↔ x ∈ l := (List.mergeSort_perm l _).mem_iff
theorem sortN_len (l : List (List UInt8)) : (sortN l).length = l.length := (List.mergeSort_perm l _).length_eq
/-- slices.BinarySearch, and whether it found. -/
theorem bsf_own (B : Nat) (v : Value) (zs : List (List UInt8)) (x : List UInt8) (w : World) (h : w.ownsRow B 9 1 v zs.length (nmL zs)) (hl : zs.length ≤ 2000000) (h0 : 0 < zs.length) (hs : zs.Pairwise (· < ·)) :
    Calls Tryz.prog 86 #[v, nmV x] w fun e w' => (∃ i, e = .returned (.tuple #[.int .i64 i, .bool (decide (x ∈ zs))])) ∧ ∃ q, w' = w.drewN q := by
  obtain ⟨a, cap, rfl, ha⟩ := owns_forms h
  obtain ⟨g, rfl⟩ := ha h0
  have hcon := Any2.slices_BinarySearch_string Tryz.bsStr g 0 zs.length cap (fun t => ⟨(zs.getD t []).toArray⟩) ⟨x.toArray⟩ w (by omega) (by
    intro j hj
    have := strs_cells h rfl j hj
    rw [Nat.zero_add, this, List.getD_eq_getElem?_getD, List.getElem?_eq_getElem hj]; rfl)
  change Calls Tryz.prog 86 _ _ _ at hcon
  have e1 : (fun t => Op.bytesLess (ByteArray.mk (zs.getD t []).toArray).toList (ByteArray.mk x.toArray).toList) = fun t => Op.bytesLess (zs.getD t []) x := by
    funext t
    simp
  rw [e1] at hcon
  refine hcon.mono ?_
  rintro e w' ⟨rfl, q, rfl⟩
  have hbs : Lib.bsGo (fun t => Op.bytesLess (zs.getD t []) x) zs.length 0 zs.length = bsIx zs x := rfl
  rw [hbs]
  have hd : decide (bsIx zs x < zs.length ∧ (ByteArray.mk (zs.getD (bsIx zs x) []).toArray) = ByteArray.mk x.toArray) = decide (x ∈ zs) := by
    by_cases hx : x ∈ zs
    · obtain ⟨h1, h2⟩ := bs_mem zs hs x hx
      rw [decide_eq_true hx]
      exact decide_eq_true ⟨h1, by rw [h2]⟩
    · rw [decide_eq_false hx]
      refine decide_eq_false fun ⟨h1, h2⟩ => hx ?_
      have h3 : zs.getD (bsIx zs x) [] = x := by
        have := congrArg (fun b : ByteArray => b.data.toList) h2
        simpa using this
      rw [← h3, List.getD_eq_getElem?_getD, List.getElem?_eq_getElem h1]
      exact List.getElem_mem h1
  rw [hd]
  exact ⟨⟨((bsIx zs x : Nat) : Int), rfl⟩, q, rfl⟩
/-- The closure of Others. -/
theorem other_gives (Bx B : Nat) (v : Value) (zs : List (List UInt8)) (x : List UInt8) (W : World) (hc : W.cell? ⟨Bx, 0, none⟩ = some v) (h : W.ownsRow B 9 1 v zs.length (nmL zs)) (hl : zs.length ≤ 2000000) (h0 : 0 < zs.length) (hs : zs.Pairwise (· < ·)) :
    FnGives Tryz.prog 85 #[.pointer (some ⟨Bx, 0, none⟩)] #[encStr x] (.bool (decide (x ∈ zs))) W := by
  show Calls Tryz.prog 85 #[nmV x, .pointer (some ⟨Bx, 0, none⟩)] W _
  have hb := bsf_own B v zs x W h hl h0 hs
  obtain ⟨r, hr⟩ : ∃ r, decide (x ∈ zs) = r := ⟨_, rfl⟩
  obtain ⟨a, c, rfl, _⟩ := owns_forms h
  rw [hr] at hb ⊢
  unfold nmV at hb ⊢
  clear h
  go_enter Tryz.func85, Tryz.ntmps85
  go_wp2_with fail
  refine hb.mono ?_
  rintro e w1 ⟨⟨i, rfl⟩, q, rfl⟩
  go_wp2_with fail
  go_ret
  exact ⟨rfl, q, rfl⟩
def othersL (F : List Fl) (L : List (List UInt8)) : List (List UInt8) := (sortN (nms F)).filter fun x => !decide (x ∈ L)
set_option maxHeartbeats 2000000 in
/-- slices.DeleteFunc of names. -/
theorem deleteN_any (B Bx B2 : Nat) (L zs : List (List UInt8)) (v u : Value) (w : World) (hv : w.ownsRow B 9 1 v L.length (nmL L)) (hLl : L.length ≤ 2000000) (hc : w.cell? ⟨Bx, 0, none⟩ = some u) (hu : w.ownsRow B2 9 1 u zs.length (nmL zs)) (hl : zs.length ≤ 2000000) (h0 : 0 < zs.length) (hs : zs.Pairwise (· < ·)) (hBx : ∀ g, v.ownBlock = some g → g ≠ Bx) (hne : ∀ g, v.ownBlock = some g → u.ownBlock ≠ some g) :
    Calls Tryz.prog 84 #[v, .func (.func 85) #[] #[.pointer (some ⟨Bx, 0, none⟩)]] w fun e w' => ∃ v', e = .returned v' ∧ w'.ownsRow B 9 1 v' (L.filter fun x => !decide (x ∈ zs)).length (nmL (L.filter fun x => !decide (x ∈ zs))) ∧ Kp v.ownBlock.toList w w' := by
  by_cases hz : L = []
  · subst hz
    obtain ⟨a, c, rfl, _⟩ := owns_forms hv
    have hi := AnyE.slices_IndexFunc_empty (P := Tryz.prog) (ρ := Tryz.laysH10_ren) { Tryz.laysH10 with } a c (.func (.func 85) #[] #[.pointer (some ⟨Bx, 0, none⟩)]) w
    change Calls Tryz.prog 130 #[.slice a 0 c, .func (.func 85) #[] #[.pointer (some ⟨Bx, 0, none⟩)]] w _ at hi
    have HV := hide hv
    clear hv hu
    simp only [List.length_nil, List.filter_nil]
    go_enter Tryz.func84, Tryz.ntmps84
    go_wp2_with fail
    refine hi.mono ?_
    rintro e w1 ⟨rfl, rfl⟩
    go_wp2_with fail
    go_ret
    exact ⟨_, rfl, HV.out, Kp.refl _ _⟩
  · have hpos : 0 < L.length := List.length_pos_iff.2 hz
    obtain ⟨a, cap, rfl, ha⟩ := owns_forms hv
    obtain ⟨g, rfl⟩ := ha hpos
    have hcap : L.length ≤ cap := by
      rcases hv.2 with ⟨e1, _⟩ | ⟨g', cap', cur, e1, hb, hg, hn', _⟩
      · simp at e1
      · simp at e1; omega
    have hBlt : Bx < w.heap.size := World.block_lt_of_cell? w _ hc
    have hH := holds_strs hv rfl
    have hgives : ∀ W, W.cell? ⟨Bx, 0, none⟩ = some u → W.ownsRow B2 9 1 u zs.length (nmL zs) → ∀ x, FnGives Tryz.prog 85 #[.pointer (some ⟨Bx, 0, none⟩)] #[encStr x] (.bool (decide (x ∈ zs))) W := fun W h1 h2 x => other_gives Bx B2 u zs x W h1 h2 hl h0 hs
    have hcon := AnyE.slices_DeleteFunc (P := Tryz.prog) (ρ := Tryz.laysH10_ren) Tryz.laysH10 encStr (fun _ => rfl) (fun x => decide (x ∈ zs)) 85 #[.pointer (some ⟨Bx, 0, none⟩)] (enters_of Tryz.func85 (by kernel_rfl) rfl) [] Tryz.zeroValue9 g 0 cap L.toArray w
      (fun W x hb => hgives W ((hb.cell (p := ⟨Bx, 0, none⟩) hBlt).trans hc) ((Kp.of_below [] hb).owns hu (by simp)) x)
      (fun n os dk x hdk => by
        have kp := put_kp encStr w g n dk os
        exact hgives _ (kp.cellv hc (by have := hBx g rfl; simp; exact fun e => this e.symm)) (kp.owns hu (fun g' hg' hx => by simp at hx; subst hx; exact hne g' rfl hg')) x)
      hH (by simp; omega) (by simpa using hcap)
    change Calls Tryz.prog 84 #[.slice (some ⟨g, 0, none⟩) L.toArray.size cap, .func (.func 85) #[] #[.pointer (some ⟨Bx, 0, none⟩)]] w _ at hcon
    simp only [List.size_toArray] at hcon
    refine hcon.mono ?_
    rintro e w' ⟨rfl, q, rfl⟩
    obtain ⟨R, hR⟩ : ∃ R, L.filter (fun x => !decide (x ∈ zs)) = R := ⟨_, rfl⟩
    have hRl : R.length ≤ L.length := by rw [← hR]; exact List.length_filter_le _ _
    rw [hR]
    have hp := put_owns encStr hv (R ++ List.replicate (L.length - R.length) []).toArray (by simp; omega) q #[]
    rw [Sort.grow_empty] at hp
    have hk := put_kp encStr w g q (R ++ List.replicate (L.length - R.length) []).toArray #[]
    rw [Sort.grow_empty] at hk
    refine ⟨_, rfl, ?_, hk⟩
    have := owns_shrink hp hRl
    rw [Nat.mul_one] at this
    simp only [List.map_append] at this
    rw [List.take_left' (by simp)] at this
    exact this
theorem others_eq (F : List Fl) (L : List (List UInt8)) : ((sortN (nms F)).filter fun x => !decide (x ∈ sortN L)) = othersL F L := by
  unfold othersL
  apply List.filter_congr
  intro x _
  simp [sortN_mem]
set_option maxHeartbeats 1000000 in
/-- Others. -/
theorem others_any (B d M : Nat) (F : List Fl) (L : List (List UInt8)) (v : Value) (w : World) (h : DiskIs w B d M F) (hB : B ≤ w.heap.size) (hv : w.ownsRow B 9 1 v L.length (nmL L)) (hLl : L.length ≤ 2000000) (hLp : 0 < L.length) (hnd : L.Nodup) (hF : F.length ≤ 2000000) :
    Calls Tryz.prog 49 #[.pointer (some ⟨d, 0, none⟩), v] w fun e w' => ∃ v', e = .returned v' ∧ w'.ownsRow w.heap.size 9 1 v' (othersL F L).length (nmL (othersL F L)) ∧ Kp [] w w' := by
  obtain ⟨a, c, ev, _⟩ := owns_forms hv
  have hval := values_any v w ⟨a, _, c, ev⟩
  obtain ⟨W1, hW1⟩ : ∃ W1, w.alloc (.cells #[v] 37) = W1 := ⟨_, rfl⟩
  rw [hW1] at hval
  have k1 : Kp [] w W1 := by rw [← hW1]; exact (Kp.refl _ _).alloc _
  have hs1 : W1.heap.size = w.heap.size + 1 := by rw [← hW1]; simp
  have hb1 : W1.heap[w.heap.size]? = some (.cells #[v] 37 (0, 0)) := by rw [← hW1]; exact heap_alloc_new w _
  have hc1 : W1.cell? ⟨w.heap.size, 0, none⟩ = some v := by simp [World.cell?, hb1]
  have hsrt := sortedVals_any w.heap.size B L v hLl W1 (by omega) (by omega) hc1 (k1.owns hv (by simp))
  have HD := hide h
  subst ev
  clear h hv hW1 hb1 hc1
  go_enter Tryz.func49, Tryz.ntmps49
  go_wp2_with fail
  refine hval.mono ?_
  rintro e w1 ⟨rfl, rfl⟩
  go_wp2_with fail
  refine hsrt.mono ?_
  rintro e W2 ⟨sv, rfl, hsv, k2⟩
  obtain ⟨sa, sc, esv, _⟩ := owns_forms hsv
  subst esv
  obtain ⟨W3, hW3⟩ : ∃ W3, W2.alloc (.cells #[.slice sa L.length sc] 37) = W3 := ⟨_, rfl⟩
  have k3 : Kp [] W2 W3 := by rw [← hW3]; exact (Kp.refl _ _).alloc _
  have hs3 : W3.heap.size = W2.heap.size + 1 := by rw [← hW3]; simp
  have hb3 : W3.heap[W2.heap.size]? = some (.cells #[.slice sa L.length sc] 37 (0, 0)) := by rw [← hW3]; exact heap_alloc_new W2 _
  have k03 : Kp [] w W3 := (k1.next k2).next k3
  have hz2 := k2.size
  have hnm := dnames_any B d M F W3 (HD.out.kp k03 (by simp) (by simp) (by simp))
  have HSV := hide (k3.owns hsv (by simp))
  have HB3 := hide hb3
  have HW3 := hide hW3
  clear hval hsrt hsv hb3
  go_wp2_with (simp only [hW3])
  clear hW3
  refine hnm.mono ?_
  rintro e W4 ⟨nv, rfl, hnv, k4⟩
  have hz4 := k4.size
  have hb4 := k4.heap HB3.out (by simp)
  have hc4 : W4.cell? ⟨W2.heap.size, 0, none⟩ = some (.slice sa L.length sc) := by simp [World.cell?, hb4]
  have hsv4 := k4.owns HSV.out (by simp)
  have hlen : (sortN L).length = L.length := sortN_len L
  have hlenF : (sortN (nms F)).length = F.length := by rw [sortN_len]; simp [nms]
  have hdel := deleteN_any W3.heap.size W2.heap.size w1.heap.size (sortN (nms F)) (sortN L) nv (.slice sa L.length sc) W4 (by rw [hlenF]; exact hnv) (by omega) hc4 (by rw [hlen]; exact hsv4) (by omega) (by omega) (sortN_lt L hnd)
    (fun g hg => by have := (hnv.lt g hg).1; omega)
    (fun g hg hx => by have h1 := (hnv.lt g hg).1; have h2 := (HSV.out.lt g hx).2; omega)
  rw [others_eq] at hdel
  have hlow : ∀ g ∈ nv.ownBlock.toList, W3.heap.size ≤ g := fun g hg => (hnv.lt g (Option.mem_toList.1 hg)).1
  obtain ⟨na, nc, env, _⟩ := owns_forms hnv
  subst env
  clear hnm hnv hsv4 hb4
  go_wp2_with fail
  refine hdel.mono ?_
  rintro e W5 ⟨rv, rfl, hrv, k5⟩
  have hfin : W5.ownsRow w.heap.size 9 1 rv (othersL F L).length (nmL (othersL F L)) := ownsRow_base_a hrv (by omega)
  have kfin : Kp [] w W5 := (k03.next k4).trans k5 (fun x hx => .inr (by have := hlow x hx; omega))
  obtain ⟨ra, rc, erv, _⟩ := owns_forms hrv
  subst erv
  clear hdel hrv
  go_wp2_with fail
  go_ret
  exact ⟨_, rfl, hfin, kfin⟩
end Go.Proofs.YtnffagpdnklnkaaGreatDoor.Pak
set_option linter.unusedVariables false
namespace Go.Proofs.YtnffagpdnklnkaaGreatDoor.Pak
open Go.RowKit
variable {P : Program} {md : Region.Mode} {ops : Array Oper} {Q : Exit → Act → World → Prop} {S : World → Prop} {z : Nat}

/-- Whatever order is picked: S holds behind every operation, but for the one that is told: z. -/
def wpAnyE (P : Program) (md : Region.Mode) (ops : Array Oper) (Q : Exit → Act → World → Prop) (S : World → Prop) (z : Nat) : Nat → Array Bool → Act → World → Prop
  | 0, l, a, w => Region.ready md ops l = [] ∧ Q .normal a w
  | f + 1, l, a, w => (Region.ready md ops l = [] → Q .normal a w) ∧ ∀ i ∈ Region.ready md ops l, wpOp P ops Q i (fun a' w' => (i = z ∨ S w') ∧ wpAnyE P md ops Q S z f (l.setIfInBounds i true) a' w') a w
theorem anyE_any : ∀ (f : Nat) (l : Array Bool) (a : Act) (w : World), wpAnyE P md ops Q S z f l a w → wpAny P md ops Q f l a w
  | 0, _, _, _, h => h
  | f + 1, _, _, _, h => ⟨h.1, fun i hi => wpOp_mono (fun a' w' h' => anyE_any f _ a' w' h'.2) (h.2 i hi)⟩
/-- z waits for i. -/
def waits (md : Region.Mode) (ops : Array Oper) (z i : Nat) : Bool := match ops[z]? with
  | some o => o.after.toList.any fun e => Region.binds md e && e.on == i
  | none => true
theorem anyE_first {i : Nat} {oi : Oper} {v : Value} (hi : ops[i]? = some oi) (hsel : ∀ (j : Nat) (o : Oper) cs b, ops[j]? = some o → o.op ≠ .select cs b)
    (hQ : ∀ c a w, Q (.panic c) (a.put oi.dst v) w → Q (.panic c) a w) (hz : waits md ops z i = true) (f : Nat) :
    ∀ (l : Array Bool) (a : Act) (w : World),
      (∀ j oj, ops[j]? = some oj → j ≠ i → l.getD j true = false → (∀ e ∈ oj.after, Region.binds md e = true → e.on ≠ i) → oi.apart ops oj = true) →
      i ∈ Region.ready md ops l → YieldsIf P ops S oi v a → S w →
      wpAnyE P md ops Q S z f (l.setIfInBounds i true) (a.put oi.dst v) w → wpAnyE P md ops Q S z (f + 1) l a w := by
  induction f with
  | zero =>
    intro l a w _ hr hy hS H
    refine ⟨fun h => absurd hr (by rw [h]; simp), fun j hj => ?_⟩
    by_cases hji : j = i
    · rw [hji]; exact hy.wpOp hi hS ⟨.inr hS, H⟩
    · have := ready_mono hj hji
      rw [H.1] at this
      simp at this
  | succ f ih =>
    intro l a w hfree hr hy hS H
    refine ⟨fun h => absurd hr (by rw [h]; simp), fun j hj => ?_⟩
    by_cases hji : j = i
    · rw [hji]; exact hy.wpOp hi hS ⟨.inr hS, H⟩
    · have h1 := H.2 j (ready_mono hj hji)
      obtain ⟨hjun, oj, hoj, hall⟩ := mem_ready.1 hj
      have hnot : ∀ e ∈ oj.after, Region.binds md e = true → e.on ≠ i := fun e he hb heq => by
        have h1 := hall e he hb
        have h0 := (mem_ready.1 hr).1
        rw [heq] at h1
        rcases Nat.lt_or_ge i l.size with h' | h'
        · simp [h'] at h0 h1
          rw [h0] at h1
          cases h1
        · simp [Array.getElem?_eq_none h'] at h1
      have hjz : j ≠ z := fun e => by
        subst e
        unfold waits at hz
        rw [hoj] at hz
        obtain ⟨e, he, h2⟩ := List.any_eq_true.1 hz
        simp only [Bool.and_eq_true, beq_iff_eq] at h2
        exact hnot e (by simpa using he) h2.1 h2.2
      have h2 := wpOp_putIf hoj (hfree j oj hoj hji hjun hnot) (fun cs b => hsel i oi cs b hi) (fun cs b => hsel j oj cs b hoj) hQ hy h1
      refine wpOp_mono (fun a' w' h3 => ?_) h2
      obtain ⟨hy', hs', hrest⟩ := h3
      have hS' : S w' := hs'.resolve_left hjz
      refine ⟨.inr hS', ih (l.setIfInBounds j true) a' w' (fun k ok hk hki hun hno => ?_) (ready_mono hr (Ne.symm hji)) hy' hS' ?_⟩
      · refine hfree k ok hk hki ?_ hno
        by_cases hjk : j = k
        · rw [← hjk]; exact hjun
        · rw [getD_set_ne true hjk] at hun; exact hun
      · rw [Array.setIfInBounds_comm _ _ hji]
        exact hrest
theorem anyE_take {i : Nat} {oi : Oper} {v : Value} {f : Nat} {l : Array Bool} {a : Act} {w : World} (hi : ops[i]? = some oi)
    (hs : Region.noSelect ops = true) (hf : Region.free md ops l i = true) (hr : (Region.ready md ops l).contains i = true) (hz : waits md ops z i = true)
    (hQ : ∀ c a w, Q (.panic c) (a.put oi.dst v) w → Q (.panic c) a w) (hy : YieldsIf P ops S oi v a) (hS : S w)
    (h : wpAnyE P md ops Q S z f (l.setIfInBounds i true) (a.put oi.dst v) w) : wpAnyE P md ops Q S z (f + 1) l a w :=
  anyE_first hi (Region.noSelect_spec hs) hQ hz f l a w (Region.free_spec hi hf) (by simpa using hr) hy hS h
theorem anyE_tk (i d : Nat) (v : Value) {op : Op} {ty : TypeId} {pos : String} {after : Array Edge} {guard : Option (Nat × Bool)} {f : Nat} {l : Array Bool} {a : Act} {w : World} (hi : ops[i]? = some ⟨some d, op, ty, pos, after, guard⟩)
    (hy : YieldsIf P ops S ⟨some d, op, ty, pos, after, guard⟩ v a) (hS : S w)
    (h : wpAnyE P md ops Q S z f (l.setIfInBounds i true) (a.put (some d) v) w) (hs : Region.noSelect ops = true := by kernel_rfl) (hf : Region.free md ops l i = true := by kernel_rfl) (hr : (Region.ready md ops l).contains i = true := by kernel_rfl) (hz : waits md ops z i = true := by kernel_rfl)
    (hQ : ∀ c a w, Q (.panic c) (a.put (some d) v) w → Q (.panic c) a w := by exact fun _ _ _ h => h) : wpAnyE P md ops Q S z (f + 1) l a w :=
  anyE_take hi hs hf hr hz hQ hy hS h
/-- Only one may come up. -/
theorem anyE_one {i : Nat} {f : Nat} {l : Array Bool} {a : Act} {w : World} (hr : Region.ready md ops l = [i])
    (h : wpOp P ops Q i (fun a' w' => (i = z ∨ S w') ∧ wpAnyE P md ops Q S z f (l.setIfInBounds i true) a' w') a w) : wpAnyE P md ops Q S z (f + 1) l a w :=
  ⟨fun h0 => (by rw [hr] at h0; cases h0), fun j hj => by rw [hr] at hj; simp at hj; rw [hj]; exact h⟩
theorem anyE_done {l : Array Bool} {a : Act} {w : World} (hr : Region.ready md ops l = []) (h : Q .normal a w) : ∀ f, wpAnyE P md ops Q S z f l a w
  | 0 => ⟨hr, h⟩
  | _ + 1 => ⟨fun _ => h, by rw [hr]; simp⟩
theorem region_E {id : Nat} {a : Act} {w : World} (hm : P.follows .mixedOrders = true) (S : World → Prop) (z : Nat)
    (h : wpAnyE P .any ops Q S z ops.size (Array.replicate ops.size false) a w.drew) : (Code.region id ops true).wp P Q a w :=
  wp_region_any hm (anyE_any _ _ _ _ h)
/-- An operation that is wanted, as the walk meets it. -/
theorem op_E {i : Nat} {o : Oper} {K : Act → World → Prop} {a : Act} {w : World} (hi : ops[i]? = some o) (hg : o.guard = none) (h : o.wp P a w K Q) : wpOp P ops Q i K a w := by
  unfold wpOp
  simp only [hi]
  have : Region.wanted o (yielded ops a.tmps) = true := by simp [Region.wanted, hg]
  simp only [this, if_true]
  exact .inl h
/-- One that alone may come up, and what it does. -/
theorem anyE_ran {i : Nat} {o : Oper} {v : Value} {w' : World} {f : Nat} {l : Array Bool} {a : Act} {w : World} (hr : Region.ready md ops l = [i]) (hi : ops[i]? = some o) (hg : o.guard = none)
    (hrun : (execOp a.eval o).run P w = .ok (.value v) w') (hS : i = z ∨ S w') (h : wpAnyE P md ops Q S z f (l.setIfInBounds i true) (a.put o.dst v) w') : wpAnyE P md ops Q S z (f + 1) l a w := by
  refine anyE_one hr (op_E hi hg ?_)
  unfold Oper.wp
  rw [hrun]
  exact ⟨hS, h⟩
theorem anyE_call {i g : Nat} {o : Oper} {args : Array Value} {f : Nat} {l : Array Bool} {a : Act} {w : World} (hr : Region.ready md ops l = [i]) (hi : ops[i]? = some o) (hg : o.guard = none)
    (hrun : (execOp a.eval o).run P w = .ok (.enter g args) w) {R : Ending → World → Prop} (hc : Calls P g args w R)
    (h : ∀ e w', R e w' → ∃ v, e = .returned v ∧ (i = z ∨ S w') ∧ wpAnyE P md ops Q S z f (l.setIfInBounds i true) (a.put o.dst v) w') : wpAnyE P md ops Q S z (f + 1) l a w := by
  refine anyE_one hr (op_E hi hg ?_)
  unfold Oper.wp
  rw [hrun]
  refine Calls.mono hc fun e w' he => ?_
  obtain ⟨v, rfl, h1, h2⟩ := h e w' he
  exact ⟨h1, h2⟩
theorem anyE_wp {i : Nat} {o : Oper} {f : Nat} {l : Array Bool} {a : Act} {w : World} (hr : Region.ready md ops l = [i]) (hi : ops[i]? = some o) (hg : o.guard = none)
    (h : o.wp P a w (fun a' w' => (i = z ∨ S w') ∧ wpAnyE P md ops Q S z f (l.setIfInBounds i true) a' w') Q) : wpAnyE P md ops Q S z (f + 1) l a w := anyE_one hr (op_E hi hg h)
end Go.Proofs.YtnffagpdnklnkaaGreatDoor.Pak

namespace Go.Proofs.YtnffagpdnklnkaaGreatDoor.Pak
open Go.RowKit Go.Proofs.YtnffagpdnklnkaaGreatDoor Go.Proofs.YtnffagpdnklnkaaGreatDoor.Spl SiftM
/-- What a commit tells of a part. -/
def tsA (t : PPt) : List Value := [.int .i64 (t.num : Int), .int .i64 (t.T.length : Int), .int .u64 (t.dead : Int)]
def tsV (Ps : List PPt) : List Value := Ps.flatMap tsA
theorem tsV_take (Ps : List PPt) (i : Nat) (h : i < Ps.length) : tsV (Ps.take (i + 1)) = tsV (Ps.take i) ++ tsA Ps[i] := by
  unfold tsV
  rw [take_snocL Ps i h, List.flatMap_append]
  simp
theorem info143 : (Tryz.prog.info? 143).map (fun i => (i.zero, i.size, i.bytes)) = some (some (.agg #[.int .i64 0, .int .i64 0, .int .u64 0]), 3, 24) := by kernel_rfl
theorem segNum_any (P num nd nt ns nb : Nat) (w : World) (h : SegC w P num nd nt ns nb) :
    Calls Tryz.prog 37 #[.pointer (some ⟨P, 0, none⟩)] w fun e w' => e = .returned (.int .i64 (num : Int)) ∧ w' = w := by
  obtain ⟨ai, ci, at', ct, M, M2, aa, ca, st, H, ch, c0, c1, c2, c3, c4, c5, c6, c7, c8⟩ := h
  go_enter Tryz.func37, Tryz.ntmps37
  go_wp2_with fail
  go_ret
  exact ⟨rfl, rfl⟩
set_option maxHeartbeats 4000000 in
theorem told_any (X B n : Nat) (O : List Nat) (s : PSt) (w : World) (h : PIs w X B O s) (hn : s.Ps.length = n) (hb : n ≤ 1000000) (hl : s.last ≤ 1000000) (hx : s.next ≤ 10000000) :
    Calls Tryz.prog 35 #[.pointer (some ⟨X, 0, none⟩)] w fun e w' => ∃ v, e = .returned (.agg #[.int .i64 ((s.last + 1 : Nat) : Int), .int .i64 (s.next : Int), v]) ∧ w'.ownsRow w.heap.size 143 3 v n (tsV s.Ps) ∧ Kp [] w w' := by
  obtain ⟨i0, hi0, hz0, hz1, hz2⟩ := info_parts info143
  obtain ⟨x0, x6, x7, x8, x9, x10, xf⟩ := px_cells h
  have x3 : w.cell? ⟨X, 3, none⟩ = some (.int .i64 (s.last : Int)) := by simp [World.cell?, h.blk, pxC, pxA]
  obtain ⟨ag, cp, ep, hag⟩ := owns_forms h.parts
  rw [hn] at ep hag
  rw [ep] at x8
  have hrow := h.parts
  rw [ep, hn] at hrow
  have hXlt : X < w.heap.size := heap_lt h.blk
  have HW := hide hrow
  have HE := hide h.each
  have HH := hide h.hiLe
  have HN := hide hn
  clear h hrow hn x0 x7 x9 ep x6 xf
  go_enter Tryz.func35, Tryz.ntmps35
  go_wp2_with fail
  go_region
  obtain ⟨W0, hW0⟩ : ∃ W0, w.alloc (.cells #[.int .i64 0, .int .i64 0, .slice none 0 0] 94) = W0 := ⟨_, rfl⟩
  have hs0 : W0.heap.size = w.heap.size + 1 := by rw [← hW0]; simp
  have hr0 : W0.heap[w.heap.size]? = some (.cells #[.int .i64 0, .int .i64 0, .slice none 0 0] 94 (0, 0)) := by rw [← hW0]; exact heap_alloc_new w _
  have k0 : Kp [] w W0 := by rw [← hW0]; exact (Kp.refl _ _).alloc _
  rw [hW0]
  obtain ⟨W1, hW1⟩ : ∃ W1, (W0.alloc (.cells #[.int .i64 ((s.last : Int) + 1), .int .i64 (s.next : Int), .slice none 0 0] 94)).drew = W1 := ⟨_, rfl⟩
  have hs1 : W1.heap.size = w.heap.size + 2 := by rw [← hW1]; show (W0.alloc _).heap.size = _; simp; omega
  have k01 : Kp [] W0 W1 := by rw [← hW1]; exact ((Kp.refl _ _).alloc _).drewN 1
  have hr1 := k01.heap hr0 (by simp)
  have hb1 : W1.heap[w.heap.size + 1]? = some (.cells #[.int .i64 ((s.last : Int) + 1), .int .i64 (s.next : Int), .slice none 0 0] 94 (0, 0)) := by
    rw [← hW1, ← hs0]; exact heap_alloc_new W0 _
  have k1 : Kp [] w W1 := k0.next k01
  rw [hW1]
  clear hW0 hW1 hr0 k01 k0
  have x81 := k1.cellv x8 (by simp)
  have HB1 := hide hb1
  have HR1 := hide hr1
  clear hb1 hr1
  go_wp2_with fail
  go_loopw [21] (fun iv wr => ∃ (i : Nat) (a : Option Addr) (c : Nat), i ≤ n ∧ iv = .int .i64 (i : Int) ∧ Hid (wr.heap[w.heap.size + 1]? = some (.cells #[.int .i64 ((s.last : Int) + 1), .int .i64 (s.next : Int), .slice a i c] 94 (0, 0))) ∧ Hid (wr.ownsRow (w.heap.size + 2) 143 3 (.slice a i c) i (tsV (s.Ps.take i))) ∧ Hid (Kp [w.heap.size + 1] W1 wr)) (fun iv _ => n - (intOf iv).toNat)
  case atStart => exact ⟨0, none, 0, by omega, rfl, HB1, World.ownsRow_nil _ _ _ _, Kp.refl _ _⟩
  case round =>
    obtain ⟨i, a, c, hi, rfl, hC, hO, hK⟩ := hrel
    have hksz := hK.out.size
    by_cases hlt : i < n
    · obtain ⟨g, rfl⟩ := hag (by omega)
      have hkw : Kp [w.heap.size + 1] w wr := (k1.mono (by simp)).next hK.out
      have hkw0 : ∀ x, x < w.heap.size → x ∉ [w.heap.size + 1] := fun x hx => by simp; omega
      have hiL : i < s.Ps.length := by rw [HN.out]; exact hlt
      have hgl := (HW.out.lt g rfl).2
      have hpc := ptV_cell (hkw.owns HW.out (fun g' hg' => by have := (HW.out.lt g' hg').2; exact hkw0 _ this)) i hiL
      have hp0 := HE.out _ (List.getElem_mem hiL)
      have hta := tsV_take s.Ps i hiL
      obtain ⟨t, ht⟩ : ∃ t, s.Ps[i] = t := ⟨_, rfl⟩
      rw [ht] at hpc hp0 hta
      have hpw : PartIs wr.drew t := hp0.kp (hkw.next ((Kp.refl _ _).drewN 1)) (hkw0 _ (heap_lt hp0.cells)) (fun x hx => by
        simp at hx; subst hx
        have := HH.out t (by rw [← ht]; exact List.getElem_mem hiL)
        right; omega)
      obtain ⟨p0, p1⟩ := part_two hpw
      have hnum := segNum_any t.q t.num t.T.length (termsOf t.T).length (St.refSets (termsOf t.T)).length ((bodyT t.T).length + 4) wr.drew hpw.seg.segC
      have hlen := segLen_any t.q t.num t.T.length (termsOf t.T).length (St.refSets (termsOf t.T)).length ((bodyT t.T).length + 4) wr.drew hpw.seg.segC
      have k2 : Kp [] wr wr.drew := (Kp.refl _ _).drewN 1
      have hC2 := k2.heap hC.out (by simp)
      obtain ⟨q0, q1, q2⟩ : wr.drew.cell? ⟨w.heap.size + 1, 0, none⟩ = some (.int .i64 ((s.last : Int) + 1)) ∧ wr.drew.cell? ⟨w.heap.size + 1, 1, none⟩ = some (.int .i64 (s.next : Int)) ∧ wr.drew.cell? ⟨w.heap.size + 1, 2, none⟩ = some (.slice a i c) := by refine ⟨?_, ?_, ?_⟩ <;> simp [World.cell?, hC2]
      have HO2 := hide (k2.owns hO.out (by simp))
      have HC2 := hide hC2
      have HTA := hide hta
      have j1 : (0 : Int) ≤ (i : Int) := by omega
      have j2 : (i : Int) < (n : Int) := by omega
      have hplt : Hid (t.p < w.heap.size) := heap_lt hp0.cells
      clear hpw hta hp0 hC2 ht
      have mixed : Tryz.prog.follows .mixedOrders = true := by kernel_rfl
      go_wp2_with fail
      refine region_E mixed (fun w' => w'.cell? ⟨w.heap.size + 1, 2, none⟩ = some (.slice a i c) ∧ w'.cell? ⟨t.p, 0, none⟩ = some (.pointer (some ⟨t.q, 0, none⟩)) ∧ w'.cell? ⟨t.p, 1, none⟩ = some (.int .u64 (t.dead : Int))) 20 ?_
      have hS0 : wr.drew.cell? ⟨w.heap.size + 1, 2, none⟩ = some (.slice a i c) ∧ wr.drew.cell? ⟨t.p, 0, none⟩ = some (.pointer (some ⟨t.q, 0, none⟩)) ∧ wr.drew.cell? ⟨t.p, 1, none⟩ = some (.int .u64 (t.dead : Int)) := ⟨q2, p0, p1⟩
      refine anyE_tk 0 25 (.pointer (some ⟨w.heap.size + 1, 2, none⟩)) rfl (Or.inl ⟨by rfl, fun w' hS => by obtain ⟨s1, s2, s3⟩ := hS; go_simp⟩) hS0 ?_
      simp only [Act.put, List.setIfInBounds_toArray, List.set_cons_zero, List.set_cons_succ]
      refine anyE_tk 1 26 (.slice a i c) rfl (Or.inl ⟨by rfl, fun w' hS => by obtain ⟨s1, s2, s3⟩ := hS; go_simp⟩) hS0 ?_
      simp only [Act.put, List.setIfInBounds_toArray, List.set_cons_zero, List.set_cons_succ]
      refine anyE_tk 2 27 (.pointer (some ⟨t.p, 0, none⟩)) rfl (Or.inl ⟨by rfl, fun w' hS => by obtain ⟨s1, s2, s3⟩ := hS; go_simp⟩) hS0 ?_
      simp only [Act.put, List.setIfInBounds_toArray, List.set_cons_zero, List.set_cons_succ]
      refine anyE_tk 3 28 (.pointer (some ⟨t.p, 0, none⟩)) rfl (Or.inl ⟨by rfl, fun w' hS => by obtain ⟨s1, s2, s3⟩ := hS; go_simp⟩) hS0 ?_
      simp only [Act.put, List.setIfInBounds_toArray, List.set_cons_zero, List.set_cons_succ]
      refine anyE_tk 4 29 (.pointer (some ⟨t.p, 0, none⟩)) rfl (Or.inl ⟨by rfl, fun w' hS => by obtain ⟨s1, s2, s3⟩ := hS; go_simp⟩) hS0 ?_
      simp only [Act.put, List.setIfInBounds_toArray, List.set_cons_zero, List.set_cons_succ]
      refine anyE_tk 5 30 (.pointer (some ⟨t.q, 0, none⟩)) rfl (Or.inl ⟨by rfl, fun w' hS => by obtain ⟨s1, s2, s3⟩ := hS; go_simp⟩) hS0 ?_
      simp only [Act.put, List.setIfInBounds_toArray, List.set_cons_zero, List.set_cons_succ]
      refine anyE_tk 7 32 (.pointer (some ⟨t.p, 0, none⟩)) rfl (Or.inl ⟨by rfl, fun w' hS => by obtain ⟨s1, s2, s3⟩ := hS; go_simp⟩) hS0 ?_
      simp only [Act.put, List.setIfInBounds_toArray, List.set_cons_zero, List.set_cons_succ]
      refine anyE_tk 8 33 (.pointer (some ⟨t.p, 0, none⟩)) rfl (Or.inl ⟨by rfl, fun w' hS => by obtain ⟨s1, s2, s3⟩ := hS; go_simp⟩) hS0 ?_
      simp only [Act.put, List.setIfInBounds_toArray, List.set_cons_zero, List.set_cons_succ]
      refine anyE_tk 9 34 (.pointer (some ⟨t.p, 0, none⟩)) rfl (Or.inl ⟨by rfl, fun w' hS => by obtain ⟨s1, s2, s3⟩ := hS; go_simp⟩) hS0 ?_
      simp only [Act.put, List.setIfInBounds_toArray, List.set_cons_zero, List.set_cons_succ]
      refine anyE_tk 10 35 (.pointer (some ⟨t.q, 0, none⟩)) rfl (Or.inl ⟨by rfl, fun w' hS => by obtain ⟨s1, s2, s3⟩ := hS; go_simp⟩) hS0 ?_
      simp only [Act.put, List.setIfInBounds_toArray, List.set_cons_zero, List.set_cons_succ]
      refine anyE_tk 12 37 (.pointer (some ⟨t.p, 0, none⟩)) rfl (Or.inl ⟨by rfl, fun w' hS => by obtain ⟨s1, s2, s3⟩ := hS; go_simp⟩) hS0 ?_
      simp only [Act.put, List.setIfInBounds_toArray, List.set_cons_zero, List.set_cons_succ]
      refine anyE_tk 13 38 (.pointer (some ⟨t.p, 0, none⟩)) rfl (Or.inl ⟨by rfl, fun w' hS => by obtain ⟨s1, s2, s3⟩ := hS; go_simp⟩) hS0 ?_
      simp only [Act.put, List.setIfInBounds_toArray, List.set_cons_zero, List.set_cons_succ]
      refine anyE_tk 14 39 (.pointer (some ⟨t.p, 1, none⟩)) rfl (Or.inl ⟨by rfl, fun w' hS => by obtain ⟨s1, s2, s3⟩ := hS; go_simp⟩) hS0 ?_
      simp only [Act.put, List.setIfInBounds_toArray, List.set_cons_zero, List.set_cons_succ]
      refine anyE_tk 15 40 (.int .u64 (t.dead : Int)) rfl (Or.inl ⟨by rfl, fun w' hS => by obtain ⟨s1, s2, s3⟩ := hS; go_simp⟩) hS0 ?_
      simp only [Act.put, List.setIfInBounds_toArray, List.set_cons_zero, List.set_cons_succ]
      refine anyE_call (i := 6) (o := { dst := some 31, op := _, type := _, pos := _, after := _, guard := _ }) (by kernel_rfl) rfl rfl (by go_simp) hnum ?_
      rintro e w1 ⟨rfl, rfl⟩
      refine ⟨_, rfl, .inr hS0, ?_⟩
      try simp only [Act.put, List.setIfInBounds_toArray, List.set_cons_zero, List.set_cons_succ]
      refine anyE_call (i := 11) (o := { dst := some 36, op := _, type := _, pos := _, after := _, guard := _ }) (by kernel_rfl) rfl rfl (by go_simp) hlen ?_
      rintro e w1 ⟨rfl, rfl⟩
      refine ⟨_, rfl, .inr hS0, ?_⟩
      try simp only [Act.put, List.setIfInBounds_toArray, List.set_cons_zero, List.set_cons_succ]
      refine anyE_ran (i := 16) (o := { dst := some 41, op := _, type := _, pos := _, after := _, guard := _ }) (v := .agg #[.int .i64 (t.num : Int), .int .i64 (t.T.length : Int), .int .u64 (t.dead : Int)]) (w' := wr.drew) (by kernel_rfl) rfl rfl (by go_simp) (.inr hS0) ?_
      try simp only [Act.put, List.setIfInBounds_toArray, List.set_cons_zero, List.set_cons_succ]
      obtain ⟨W3, hW3⟩ : ∃ W3, wr.drew.alloc (.cells #[.int .i64 (t.num : Int), .int .i64 (t.T.length : Int), .int .u64 (t.dead : Int)] 143) = W3 := ⟨_, rfl⟩
      have k3 : Kp [] wr.drew W3 := by rw [← hW3]; exact (Kp.refl _ _).alloc _
      have hz3 : W3.heap.size = wr.heap.size + 1 := by rw [← hW3]; show (wr.drew.alloc _).heap.size = _; simp
      have hn3 : W3.heap[wr.drew.heap.size]? = some (.cells #[.int .i64 (t.num : Int), .int .i64 (t.T.length : Int), .int .u64 (t.dead : Int)] 143 (0, 0)) := by rw [← hW3]; exact heap_alloc_new _ _
      refine anyE_ran (i := 17) (o := { dst := some 42, op := _, type := _, pos := _, after := _, guard := _ }) (v := .slice (some ⟨wr.drew.heap.size, 0, none⟩) 1 1) (w' := W3) (by kernel_rfl) rfl rfl (by rw [← hW3]; go_simp) (.inr ⟨k3.cellv q2 (by simp), k3.cellv p0 (by simp), k3.cellv p1 (by simp)⟩) ?_
      try simp only [Act.put, List.setIfInBounds_toArray, List.set_cons_zero, List.set_cons_succ]
      refine anyE_wp (i := 18) (o := { dst := some 43, op := _, type := _, pos := _, after := _, guard := _ }) (by kernel_rfl) rfl rfl ?_
      have hdz : wr.drew.heap.size = wr.heap.size := rfl
      refine wp_append_lies W3 _ _ 92 rfl (w.heap.size + 2) 143 i0 _ 3 24 Tryz.underlying92 hi0 hz0 hz1 hz2 rfl (by omega) (.slice a i c) i (tsV (s.Ps.take i)) rfl (k3.owns HO2.out (by simp)) ⟨wr.drew.heap.size, 0, none⟩ 1 1 [.int .i64 (t.num : Int), .int .i64 (t.T.length : Int), .int .u64 (t.dead : Int)] rfl rfl (World.news_of_block (cs := #[.int .i64 (t.num : Int), .int .i64 (t.T.length : Int), .int .u64 (t.dead : Int)]) (t := 143) (fr := (0, 0)) hn3) (by simp [Value.oneCell']) (by omega) (by unfold maxLen; omega) (by omega) (by omega) W3.heap.size rfl ?_
      intro g4 cap4 W4 hown4 hgrow hat hlt4
      have k4 := grown_kp hgrow
      have hlow : ∀ x ∈ (Value.slice a i c).ownBlock.toList, w.heap.size + 2 ≤ x := fun x hx => (HO2.out.lt x (Option.mem_toList.1 hx)).1
      have hC4 := k4.heap (k3.heap HC2.out (by simp)) (fun hx => by have := hlow _ hx; omega)
      have hpl : t.p < w.heap.size := hplt.out
      have S4 : W4.cell? ⟨w.heap.size + 1, 2, none⟩ = some (.slice a i c) ∧ W4.cell? ⟨t.p, 0, none⟩ = some (.pointer (some ⟨t.q, 0, none⟩)) ∧ W4.cell? ⟨t.p, 1, none⟩ = some (.int .u64 (t.dead : Int)) :=
        ⟨k4.cellv (k3.cellv q2 (by simp)) (fun hx => by have h9 := hlow _ hx; dsimp only at h9; omega), k4.cellv (k3.cellv p0 (by simp)) (fun hx => by have h9 := hlow _ hx; dsimp only at h9; omega), k4.cellv (k3.cellv p1 (by simp)) (fun hx => by have h9 := hlow _ hx; dsimp only at h9; omega)⟩
      refine ⟨.inr S4, ?_⟩
      try simp only [Act.put, List.setIfInBounds_toArray, List.set_cons_zero, List.set_cons_succ]
      refine anyE_ran (i := 19) (o := { dst := some 44, op := _, type := _, pos := _, after := _, guard := _ }) (v := .pointer (some ⟨w.heap.size + 1, 2, none⟩)) (w' := W4) (by kernel_rfl) rfl rfl (by go_simp) (.inr S4) ?_
      try simp only [Act.put, List.setIfInBounds_toArray, List.set_cons_zero, List.set_cons_succ]
      obtain ⟨z2, _, _⟩ := S4
      have zf : W4.frozen? ⟨w.heap.size + 1, 2, none⟩ = false := by simp [World.frozen?, hC4]
      refine anyE_wp (i := 20) (o := { dst := none, op := _, type := _, pos := _, after := _, guard := _ }) (by kernel_rfl) rfl rfl ?_
      go_simp
      refine anyE_done (by kernel_rfl) ?_ _
      have ks := kp_set W4 (w.heap.size + 1) 2 (.slice (some ⟨g4, 0, none⟩) (i + 1) cap4)
      have hnb : ∀ g, (Value.slice (some ⟨g4, 0, none⟩) (i + 1) cap4).ownBlock = some g → g ∉ [w.heap.size + 1] := fun g hg hx => by
        have := (hown4.lt g hg).1
        simp at hx
        omega
      have hfin : Hid ((W4.setCell ⟨w.heap.size + 1, 2, none⟩ (.slice (some ⟨g4, 0, none⟩) (i + 1) cap4)).ownsRow (w.heap.size + 2) 143 3 (.slice (some ⟨g4, 0, none⟩) (i + 1) cap4) (i + 1) (tsV (s.Ps.take (i + 1)))) := by
        rw [HTA.out]
        exact ks.owns hown4 hnb
      have hCf : Hid ((W4.setCell ⟨w.heap.size + 1, 2, none⟩ (.slice (some ⟨g4, 0, none⟩) (i + 1) cap4)).heap[w.heap.size + 1]? = some (.cells #[.int .i64 ((s.last : Int) + 1), .int .i64 (s.next : Int), .slice (some ⟨g4, 0, none⟩) (i + 1) cap4] 94 (0, 0))) := heap_setCell_same W4 (w.heap.size + 1) 2 _ 94 _ hC4
      have hKf : Hid (Kp [w.heap.size + 1] W1 (W4.setCell ⟨w.heap.size + 1, 2, none⟩ (.slice (some ⟨g4, 0, none⟩) (i + 1) cap4))) := by
        have e1 : Kp [w.heap.size + 1] W1 W3 := (hK.out.next ((Kp.refl _ _).drewN 1)).next (k3.mono (by simp))
        exact (e1.trans k4 (fun x hx => .inr (by have := hlow x hx; omega))).next ks
      clear hown4 hgrow hat hlt4 k4 hC4 z2 zf ks hnb k3 hn3 hW3
      go_wp2_with fail
      go_roundw
      case rel => exact ⟨i + 1, _, _, by omega, by go_num, hCf, hfin, hKf⟩
      case measure => simp [intOf]; omega
    · have hin : i = n := by omega
      subst hin
      have hc2 : ∀ j, wr.frozen? ⟨w.heap.size, j, none⟩ = false := fun j => by simp [World.frozen?, hK.out.heap HR1.out (by simp)]
      have hr := hK.out.heap HR1.out (by simp)
      obtain ⟨r0, r1, r2⟩ : wr.cell? ⟨w.heap.size, 0, none⟩ = some (.int .i64 0) ∧ wr.cell? ⟨w.heap.size, 1, none⟩ = some (.int .i64 0) ∧ wr.cell? ⟨w.heap.size, 2, none⟩ = some (.slice none 0 0) := by refine ⟨?_, ?_, ?_⟩ <;> simp [World.cell?, hr]
      obtain ⟨q0, q1, q2⟩ : wr.cell? ⟨w.heap.size + 1, 0, none⟩ = some (.int .i64 ((s.last : Int) + 1)) ∧ wr.cell? ⟨w.heap.size + 1, 1, none⟩ = some (.int .i64 (s.next : Int)) ∧ wr.cell? ⟨w.heap.size + 1, 2, none⟩ = some (.slice a i c) := by refine ⟨?_, ?_, ?_⟩ <;> simp [World.cell?, hC.out]
      go_wp2_with fail
      have ks : Kp [w.heap.size] wr (((wr.setCell ⟨w.heap.size, 0, none⟩ (.int .i64 ((s.last : Int) + 1))).setCell ⟨w.heap.size, 1, none⟩ (.int .i64 (s.next : Int))).setCell ⟨w.heap.size, 2, none⟩ (.slice a i c)) := (((Kp.refl _ _).setCell (.inl (by simp)) _).setCell (.inl (by simp)) _).setCell (.inl (by simp)) _
      refine bodyPost_ret (v := .agg #[.int .i64 ((s.last : Int) + 1), .int .i64 (s.next : Int), .slice a i c]) (by simp [results, Tryz.results35, go_sem, r0, r1, r2]) rfl ⟨.slice a i c, by simp, ?_, ?_⟩
      · have ho := hO.out
        rw [List.take_of_length_le (by rw [HN.out]; exact Nat.le_refl _)] at ho
        exact ks.owns (ownsRow_base_a ho (by omega)) (fun g' hg' hx => by simp at hx; subst hx; have := (ho.lt _ hg').1; omega)
      · exact (k1.trans hK.out (fun x hx => .inr (by simp at hx; omega))).trans ks (fun x hx => .inr (by simp at hx; omega))
end Go.Proofs.YtnffagpdnklnkaaGreatDoor.Pak
