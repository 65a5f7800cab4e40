import Derived.Test.YtnffagpdnklnkaaGreatDoorV14
import Derived.Test.YtnffagpdnklnkaaGreatDoorV19
import Derived.Test.YtnffagpdnklnkaaGreatDoorV20
set_option linter.unusedVariables false
set_option linter.unusedSimpArgs false
set_option maxRecDepth 8000
namespace Go.Proofs.YtnffagpdnklnkaaGreatDoor.Pak
open Go.RowKit Go.Proofs.YtnffagpdnklnkaaGreatDoor Go.Proofs.YtnffagpdnklnkaaGreatDoor.Spl SiftM Go.Maps
/-- Where a text is: a part and a place there. -/
def homV (x : Nat × Nat) : Value := .agg #[.pointer (some ⟨x.1, 0, none⟩), .int .i64 (x.2 : Int)]
def idK (id : Nat) : Lit := .int .i64 (id : Int)
theorem keyOf_id (id : Nat) (h : id ≤ 1099511627776) : keyOf Tryz.prog 3 (.int .i64 (id : Int)) = some (idK id) := Maps.keyOf_int_mk Tryz.underlying3 (wf64 id h)
theorem idsK : Keyed Tryz.prog 3 := Maps.int_keyed Tryz.underlying3
theorem idK_inj {a b : Nat} (h : idK a = idK b) : a = b := by
  unfold idK at h
  simp at h
  omega
theorem idK_lit (id : Nat) : WideAt.IsKeyLit (idK id) := trivial
theorem zero312 (w : World) : (zeroValue 195).run Tryz.prog w = .ok (.agg #[.pointer none, .int .i64 0]) w := by kernel_rfl
/-- Block M is the map of homes, of c entries, that says f. -/
def HomIs (w : World) (M c : Nat) (f : Nat → Option (Nat × Nat)) : Prop :=
  ∃ D : DataW Value, w.ownsMap Tryz.prog 3 anyR M c D ∧ Maps.size D = c ∧
    (∀ id, id ≤ 1099511627776 → Maps.has D (idK id) = (f id).isSome) ∧
    ∀ id, id ≤ 1099511627776 → ∀ x, f id = some x → ∀ z, D.atKey (idK id) z = .held (homV x)
theorem HomIs.lt {w : World} {M c : Nat} {f : Nat → Option (Nat × Nat)} (h : HomIs w M c f) : M < w.heap.size := by
  obtain ⟨D, h1, _⟩ := h; exact h1.lt
theorem HomIs.block {w : World} {M c : Nat} {f : Nat → Option (Nat × Nat)} (h : HomIs w M c f) : ∃ es clock, w.heap[M]? = some (.map es clock) := by
  obtain ⟨D, ⟨es, clock, h1, _⟩, _⟩ := h; exact ⟨es, clock, h1⟩
theorem HomIs.kp {S : List Nat} {w w' : World} {M c : Nat} {f : Nat → Option (Nat × Nat)} (h : HomIs w M c f) (k : Kp S w w') (hM : M ∉ S) : HomIs w' M c f := by
  obtain ⟨D, ⟨es, clock, h1, h2⟩, h3⟩ := h
  exact ⟨D, ⟨es, clock, k.heap h1 hM, h2⟩, h3⟩
theorem homIs_made (w : World) : HomIs (w.alloc (.map #[] 0)) w.heap.size 0 fun _ => none := by
  refine ⟨.map [], World.ownsMap_made _ _ _ _, rfl, fun id _ => rfl, fun id _ x hx => by simp at hx⟩
def setAt (f : Nat → Option (Nat × Nat)) (id : Nat) (x : Option (Nat × Nat)) : Nat → Option (Nat × Nat) := fun j => if j = id then x else f j
theorem owns_sizeH {w : World} {M n : Nat} {D : DataW Value} (h : w.ownsMap Tryz.prog 3 anyR M n D) : w.ownsMap Tryz.prog 3 anyR M (Maps.size D) D := by
  obtain ⟨es, clock, h1, h2, h3, rfl⟩ := h
  exact ⟨es, clock, h1, h2, by simp [Maps.size, length_sorted], rfl⟩
/-- v, ok := homes[id]. -/
theorem HomIs.look {w : World} {M c : Nat} {f : Nat → Option (Nat × Nat)} (h : HomIs w M c f) (id : Nat) (hid : id ≤ 1099511627776) :
    ∃ v, (Instr.lookup 67 (.map (some M)) (.int .i64 (id : Int)) true).run Tryz.prog w = .ok (.tuple #[v, .bool (f id).isSome]) w ∧ (∀ x, f id = some x → v = homV x) ∧ (f id = none → v = .agg #[.pointer none, .int .i64 0]) := by
  obtain ⟨D, hown, hsz, hhas, hat⟩ := h
  have hz := zero312 w
  obtain ⟨es, clock, hb, F, hs, hD⟩ := hown
  rcases Maps.fit_look true idsK Tryz.underlying67 hz hb F (keyOf_id id hid) with ⟨hrun, _, hat0⟩ | ⟨e0, y, _, _, hrun, hRv, hat1, _⟩
  · have hno : Maps.has D (idK id) = false := by rw [hD]; exact Maps.has_false_of_atKey hat0
    rw [hhas id hid] at hno
    refine ⟨_, by rw [hno]; exact hrun, fun x hx => ?_, fun _ => rfl⟩
    rw [hx] at hno
    simp at hno
  · have hyes : Maps.has D (idK id) = true := by rw [hD]; exact Maps.has_true_of_atKey hat1
    rw [hhas id hid] at hyes
    refine ⟨_, by rw [hyes]; exact hrun, fun x hx => ?_, fun hn => by rw [hn] at hyes; simp at hyes⟩
    have h1 := hat id hid x hx (.held (homV x))
    rw [hD, hat1] at h1
    unfold anyR at hRv
    have h2 := Option.some.inj hRv
    have h3 : y.1 = .held e0.val := by rw [← h2]
    rw [h3] at h1
    simpa using h1
/-- homes[id] = x. -/
theorem HomIs.store {w : World} {M c : Nat} {f : Nat → Option (Nat × Nat)} (h : HomIs w M c f) (hc : c ≤ 1000000000) (id : Nat) (x : Nat × Nat) (hid : id ≤ 1099511627776) :
    ∃ w', (Instr.mapUpdate 67 (.map (some M)) (.int .i64 (id : Int)) (homV x)).run Tryz.prog w = .ok () w' ∧ HomIs w' M (if (f id).isSome then c else c + 1) (setAt f id (some x)) ∧ Kp [M] w w' := by
  obtain ⟨D, hown, hsz, hhas, hat⟩ := h
  obtain ⟨w', hrun, h1, h2⟩ := hown.update idsK Tryz.underlying67 (by unfold maxLen; omega) (keyOf_id id hid) (show anyR (homV x) = some (.held (homV x), []) from rfl)
  refine ⟨w', hrun, ⟨D.put (idK id) (.held (homV x)), ?_, ?_, ?_, ?_⟩, (Kp.refl [M] w).grown h2 (fun k hk => by simp at hk; left; simp [hk])⟩
  · have := owns_sizeH h1
    rw [Maps.size_put (hown.tidy idsK), hhas id hid, hsz] at this
    exact this
  · rw [Maps.size_put (hown.tidy idsK), hhas id hid, hsz]
  · intro j hj
    unfold setAt
    by_cases e : j = id
    · subst e
      rw [Maps.has_put_same hown.isMap (idK_lit _)]
      simp
    · rw [Maps.has_put_other (fun h => e (idK_inj h)), hhas j hj, if_neg e]
  · intro j hj y hy z
    unfold setAt at hy
    by_cases e : j = id
    · subst e
      rw [if_pos rfl] at hy
      simp at hy
      subst hy
      exact Maps.atKey_put_same hown.isMap (idK_lit _) _ _
    · rw [if_neg e] at hy
      rw [Maps.atKey_put_other (fun h => e (idK_inj h))]
      exact hat j hj y hy z
/-- delete(homes, id). -/
theorem HomIs.drop {w : World} {M c : Nat} {f : Nat → Option (Nat × Nat)} (h : HomIs w M c f) (id : Nat) (hid : id ≤ 1099511627776) (ty : TypeId) :
    ∃ w', (Builtin.delete_ #[67, 3] ty #[.map (some M), .int .i64 (id : Int)]).run Tryz.prog w = .ok (.tuple #[]) w' ∧ HomIs w' M (if (f id).isSome then c - 1 else c) (setAt f id none) ∧ Kp [M] w w' := by
  obtain ⟨D, hown, hsz, hhas, hat⟩ := h
  obtain ⟨w', hrun, h1, h2⟩ := hown.drop idsK Tryz.underlying67 (keyOf_id id hid) ty
  have hsd : Maps.size (D.del (idK id)) = (if (f id).isSome then c - 1 else c) := by
    have h3 := Maps.size_del (k := idK id) (hown.tidy idsK)
    rw [hhas id hid, hsz] at h3
    split at h3
    · rename_i h4; rw [if_pos h4]; omega
    · rename_i h4; rw [if_neg h4]; omega
  refine ⟨w', hrun, ⟨D.del (idK id), ?_, hsd, ?_, ?_⟩, (Kp.refl [M] w).grown h2.grown (fun k hk => by simp at hk; left; simp [hk])⟩
  · have := owns_sizeH h1
    rw [hsd] at this
    exact this
  · intro j hj
    unfold setAt
    by_cases e : j = id
    · subst e
      rw [Maps.has_del_same]
      simp
    · rw [Maps.has_del_other (fun h => e (idK_inj h)), hhas j hj, if_neg e]
  · intro j hj y hy z
    unfold setAt at hy
    by_cases e : j = id
    · rw [if_pos e] at hy; simp at hy
    · rw [if_neg e] at hy
      rw [Maps.atKey_del_other (fun h => e (idK_inj h))]
      exact hat j hj y hy z
theorem HomIs.len {w : World} {M c : Nat} {f : Nat → Option (Nat × Nat)} (h : HomIs w M c f) (ty : TypeId) : (Builtin.len_ #[67] ty #[.map (some M)]).run Tryz.prog w = .ok (.int .i64 (c : Int)) w := by
  obtain ⟨D, hown, hsz, hhas, hat⟩ := h
  rw [hown.len Tryz.underlying67 ty, hsz]
theorem owns_capS {w : World} {base size n c : Nat} {e : TypeId} {a : Option Addr} {xs : List Value} (h : w.ownsRow base e size (.slice a n c) n xs) : n ≤ c := by
  rcases h.2 with ⟨hv, h0, _⟩ | ⟨g, cap, cur, hv, _, _, hn, _⟩
  · cases hv; omega
  · cases hv; exact hn

set_option maxHeartbeats 2000000 in
theorem segOf_any (B num : Nat) (v : Value) (T : List Tx) (vs : List Value) (w : World) (h : TextsIs w B v T vs) (hf : Fine T) (hnum : num ≤ 1000000) :
    Calls Tryz.prog 75 #[.int .i64 (num : Int), v] w fun e w' => ∃ P iv tv M, e = .returned (.pointer (some ⟨P, 0, none⟩)) ∧ SegIs w' w.heap.size w'.heap.size P num T iv tv M ∧ Kp [] w w' := by
  obtain ⟨av, cv, rfl, hav⟩ := owns_forms h.row
  have htab := tableOf_any B _ T vs w h hf.len hf.few
  have H := hide h
  have HF := hide hf
  clear h hf
  go_enter Tryz.func75, Tryz.ntmps75
  go_wp2_with (first
    | (go_at_call 123; refine htab.mono ?_; rintro e w1 ⟨M, iv, tv, rfl, hiv, htv, hM, hlM, k1⟩; obtain ⟨ai, ci, rfl, hai⟩ := owns_forms hiv; obtain ⟨at', ct, rfl, hat⟩ := owns_forms htv)
    | fail)
  obtain ⟨W1, hW1⟩ : ∃ W1, w1.alloc (.cells #[.slice ai T.length ci, .slice at' (termsOf T).length ct, .map (some M)] 105) = W1 := ⟨_, rfl⟩
  rw [hW1]
  have kW1 : Kp [] w1 W1 := by rw [← hW1]; exact (Kp.refl _ _).alloc _
  have hsW : W1.heap.size = w1.heap.size + 1 := by rw [← hW1]; simp
  have hT : W1.heap[w1.heap.size]? = some (.cells #[.slice ai T.length ci, .slice at' (termsOf T).length ct, .map (some M)] 105 (0, 0)) := by rw [← hW1]; exact heap_alloc_new w1 _
  clear hW1
  have kd : Kp [] W1 W1.drew := (Kp.refl _ _).drewN 1
  have k1d : Kp [] w W1.drew := (k1.next kW1).next kd
  have k11 : Kp [] w1 W1.drew := kW1.next kd
  have hl := allW_le T HF.out.few
  have hn := HF.out.len
  have c189 := dictOf_any (termsOf T).length ct at' (termsOf T) W1.drew (tv_of (k11.owns htv (by simp))) rfl (owns_capS htv) (by omega) (fine_word T HF.out) (fine_small T HF.out) (fine_srt T HF.out)
  have c190 : ∀ w2, Kp [] w w2 → Kp [] w1 w2 → Calls Tryz.prog 125 #[.agg #[.slice ai T.length ci, .slice at' (termsOf T).length ct, .map (some M)]] w2 fun e w' => ∃ H, e = .returned (.slice (some ⟨H, 0, none⟩) (termsOf T).length (termsOf T).length) ∧ Kp [] w2 w' := fun w2 k2 k12 =>
    havingOf_any M T.length (termsOf T).length ci ct ai at' (rowsOf T) w2 (by rw [rows_len]; exact hM.kp' k12 (by simp)) (by rw [rows_len]; exact hn) (fine_rows T HF.out) (by omega)
  have c151 : ∀ w3, Kp [] w w3 → _ := fun w3 k3 => write_any B (.slice av T.length cv) T vs w3 (H.out.kp0 k3) HF.out
  obtain ⟨z0, z1, z2, _, _, _⟩ := tb_cells hT
  have HO := hide hiv
  have HT := hide htv
  have HM := hide hM
  have HTT := hide hT
  clear hiv htv hM hT htab
  go_region_held3 (fun w' => w'.cell? ⟨w1.heap.size, 0, none⟩ = some (.slice ai T.length ci) ∧ w'.cell? ⟨w1.heap.size, 1, none⟩ = some (.slice at' (termsOf T).length ct) ∧ w'.cell? ⟨w1.heap.size, 2, none⟩ = some (.map (some M)))
    (first | (exact ⟨z0, z1, z2⟩) | (exact ⟨y0, y1, y2⟩) | (exact ⟨x0, x1, x2⟩) | (exact ⟨v0, v1, v2⟩) | go_keep)
    ((first
      | (go_at_call 124; refine c189.mono ?_; rintro e w2 ⟨M2, aa, ca, st, rfl, k2⟩; have y0 := k2.cellv z0 (by simp); have y1 := k2.cellv z1 (by simp); have y2 := k2.cellv z2 (by simp))
      | (go_at_call 125; refine (c190 w2 (k1d.next k2) (k11.next k2)).mono ?_; rintro e w3 ⟨HH, rfl, k3⟩; have x0 := k3.cellv y0 (by simp); have x1 := k3.cellv y1 (by simp); have x2 := k3.cellv y2 (by simp))
      | (go_at_call 76; refine (c151 w3 ((k1d.next k2).next k3)).mono ?_; rintro e w4 ⟨fv, rfl, hfv, k4⟩; obtain ⟨af, cf, rfl, haf⟩ := owns_forms hfv; have v0 := k4.cellv x0 (by simp); have v1 := k4.cellv x1 (by simp); have v2 := k4.cellv x2 (by simp))))
  have k14 : Kp [] w1 w4 := ((k11.next k2).next k3).next k4
  have kw4 : Kp [] w w4 := ((k1d.next k2).next k3).next k4
  clear z0 z1 z2 y0 y1 y2 x0 x1 x2 v0 v1 v2 c189 c190 c151
  go_wp2_with fail
  go_ret
  have k15 := k14.alloc (.cells #[.int .i64 (num : Int), .slice ai T.length ci, .slice at' (termsOf T).length ct, .map (some M), .map (some M2), .slice aa ((St.refSets (termsOf T)).length + 1) ca, .int .i64 st, .slice (some ⟨HH, 0, none⟩) (termsOf T).length (termsOf T).length, .int .i64 (((bodyT T).length : Int) + 4)] 113)
  refine ⟨_, _, _, _, rfl, ⟨⟨M2, aa, ca, st, HH, heap_alloc_new w4 _⟩, k15.owns HO.out (by simp), k15.owns HT.out (by simp), HM.out.kp' k15 (by simp), kw4.size, hlM, by simp, ?_, fun g hg => ?_, fun g hg => ?_⟩, kw4.alloc _⟩
  · have h1 := HM.out.lt
    have h2 := k15.size
    omega
  · have h1 := (HO.out.lt g hg).2
    have h2 := k15.size
    omega
  · have h1 := (HT.out.lt g hg).2
    have h2 := k15.size
    omega
/-- What the cells of a segment say. -/
def SegC (w : World) (P num nd nt ns nb : Nat) : Prop :=
  ∃ ai ci at' ct M M2 aa ca st H ch, w.cell? ⟨P, 0, none⟩ = some (.int .i64 (num : Int)) ∧ w.cell? ⟨P, 1, none⟩ = some (.slice ai nd ci) ∧ w.cell? ⟨P, 2, none⟩ = some (.slice at' nt ct) ∧ w.cell? ⟨P, 3, none⟩ = some (.map M) ∧
    w.cell? ⟨P, 4, none⟩ = some (.map M2) ∧ w.cell? ⟨P, 5, none⟩ = some (.slice aa (ns + 1) ca) ∧ w.cell? ⟨P, 6, none⟩ = some (.int .i64 st) ∧ w.cell? ⟨P, 7, none⟩ = some (.slice H nt ch) ∧ w.cell? ⟨P, 8, none⟩ = some (.int .i64 (nb : Int))
theorem SegIs.segC {w : World} {B E P num M : Nat} {T : List Tx} {iv tv : Value} (h : SegIs w B E P num T iv tv M) : SegC w P num T.length (termsOf T).length (St.refSets (termsOf T)).length ((bodyT T).length + 4) := by
  obtain ⟨ai, ci, rfl, _⟩ := owns_forms h.ids
  obtain ⟨at', ct, rfl, _⟩ := owns_forms h.terms
  obtain ⟨M2, aa, ca, st, H, hc⟩ := h.cells
  refine ⟨ai, ci, at', ct, some M, some M2, aa, ca, st, some ⟨H, 0, none⟩, (termsOf T).length, ?_, ?_, ?_, ?_, ?_, ?_, ?_, ?_, ?_⟩ <;> simp [World.cell?, hc]

set_option maxHeartbeats 800000 in
theorem segLen_any (P num nd nt ns nb : Nat) (w : World) (h : SegC w P num nd nt ns nb) :
    Calls Tryz.prog 54 #[.pointer (some ⟨P, 0, none⟩)] w fun e w' => e = .returned (.int .i64 (nd : Int)) ∧ w' = w := by
  obtain ⟨ai, ci, at', ct, M, M2, aa, ca, st, H, ch, c0, c1, c2, c3, c4, c5, c6, c7, c8⟩ := h
  go_enter Tryz.func54, Tryz.ntmps54
  go_wp2_with fail
  go_ret
  exact ⟨rfl, rfl⟩
set_option maxHeartbeats 800000 in
theorem dicStates_any (M : Option Nat) (aa : Option Addr) (ns ca : Nat) (st : Int) (w : World) (hn : ns ≤ 1000000000) :
    Calls Tryz.prog 56 #[.agg #[.map M, .slice aa (ns + 1) ca, .int .i64 st]] w fun e w' => e = .returned (.int .i64 (ns : Int)) ∧ Kp [] w w' := by
  have hw : IntKind.i64.wrap (((ns + 1 : Nat) : Int) - 1) = (ns : Int) := by rw [IntWalk.i64_in _ ⟨by omega, by omega⟩]; omega
  go_enter Tryz.func56, Tryz.ntmps56
  go_wp2_with fail
  go_ret
  exact ⟨by first | rfl | simp [hw], (Kp.refl _ _).alloc _⟩
set_option maxHeartbeats 800000 in
theorem segAll_any (P num nd nt ns nb : Nat) (w : World) (h : SegC w P num nd nt ns nb) (hn : nd ≤ 60) :
    Calls Tryz.prog 154 #[.pointer (some ⟨P, 0, none⟩)] w fun e w' => e = .returned (.int .u64 ((2 ^ nd - 1 : Nat) : Int)) ∧ w' = w := by
  go_enter Tryz.func154, Tryz.ntmps154
  go_wp2_with (first
    | (go_at_call 54; refine (segLen_any P num nd nt ns nb _ h).mono ?_; rintro e w1 ⟨rfl, rfl⟩)
    | fail)
  refine (first_any nd _ hn).mono ?_
  rintro e w1 ⟨rfl, rfl⟩
  go_wp2_with fail
  go_ret
  exact ⟨rfl, rfl⟩
theorem SegC.kp {S : List Nat} {w w' : World} {P num nd nt ns nb : Nat} (h : SegC w P num nd nt ns nb) (k : Kp S w w') (hP : P ∉ S) : SegC w' P num nd nt ns nb := by
  obtain ⟨ai, ci, at', ct, M, M2, aa, ca, st, H, ch, c0, c1, c2, c3, c4, c5, c6, c7, c8⟩ := h
  exact ⟨ai, ci, at', ct, M, M2, aa, ca, st, H, ch, k.cellv c0 hP, k.cellv c1 hP, k.cellv c2 hP, k.cellv c3 hP, k.cellv c4 hP, k.cellv c5 hP, k.cellv c6 hP, k.cellv c7 hP, k.cellv c8 hP⟩
theorem six_cells {w : World} {b : Nat} {u0 u1 u2 u3 u4 u5 : Value} {t : TypeId} (h : w.heap[b]? = some (.cells #[u0, u1, u2, u3, u4, u5] t (0, 0))) :
    w.cell? ⟨b, 0, none⟩ = some u0 ∧ w.cell? ⟨b, 1, none⟩ = some u1 ∧ w.cell? ⟨b, 2, none⟩ = some u2 ∧ w.cell? ⟨b, 3, none⟩ = some u3 ∧ w.cell? ⟨b, 4, none⟩ = some u4 ∧ w.cell? ⟨b, 5, none⟩ = some u5 ∧
    w.frozen? ⟨b, 0, none⟩ = false ∧ w.frozen? ⟨b, 1, none⟩ = false ∧ w.frozen? ⟨b, 2, none⟩ = false ∧ w.frozen? ⟨b, 3, none⟩ = false ∧ w.frozen? ⟨b, 4, none⟩ = false ∧ w.frozen? ⟨b, 5, none⟩ = false := by
  simp [World.cell?, World.frozen?, h]
set_option maxHeartbeats 4000000 in
theorem about_any (P num nd nt ns nb x : Nat) (w : World) (h : SegC w P num nd nt ns nb) (hx : x < 18446744073709551616) (hn : ns ≤ 1000000000) :
    Calls Tryz.prog 22 #[.pointer (some ⟨P, 0, none⟩), .int .u64 (x : Int)] w fun e w' => e = .returned (.agg #[.int .i64 (num : Int), .int .i64 (nd : Int), .int .i64 ((Lib.onesCount x : Nat) : Int), .int .i64 (nt : Int), .int .i64 (ns : Int), .int .i64 (nb : Int)]) ∧ Kp [] w w' := by
  obtain ⟨W, hW⟩ : ∃ W, w.alloc (.cells #[.int .i64 0, .int .i64 0, .int .i64 0, .int .i64 0, .int .i64 0, .int .i64 0] 41) = W := ⟨_, rfl⟩
  have k0 : Kp [] w W := by rw [← hW]; exact (Kp.refl _ _).alloc _
  have hR : W.heap[w.heap.size]? = some (.cells #[.int .i64 0, .int .i64 0, .int .i64 0, .int .i64 0, .int .i64 0, .int .i64 0] 41 (0, 0)) := by rw [← hW]; exact heap_alloc_new w _
  have hPl : P < w.heap.size := by
    obtain ⟨ai, ci, at', ct, M, M2, aa, ca, st, H, ch, c0, _⟩ := h
    exact World.block_lt_of_cell? w _ c0
  have hC := h.kp k0 (by simp)
  have HC := hide hC
  obtain ⟨ai, ci, at', ct, M, M2, aa, ca, st, H, ch, c0, c1, c2, c3, c4, c5, c6, c7, c8⟩ := hC
  have HR := hide hR
  have c137 : ∀ w2, Kp [] W w2 → _ := fun w2 k2 => segLen_any P num nd nt ns nb w2 (HC.out.kp k2 (by simp))
  have c260 := fun w2 => dicStates_any M2 aa ns ca st w2 hn
  clear hR h
  go_enter Tryz.func22, Tryz.ntmps22
  go_wp2_with fail
  go_region_held3 (fun w' => w'.cell? ⟨P, 0, none⟩ = some (.int .i64 (num : Int)) ∧ w'.cell? ⟨P, 2, none⟩ = some (.slice at' nt ct) ∧ w'.cell? ⟨P, 4, none⟩ = some (.map M2) ∧ w'.cell? ⟨P, 5, none⟩ = some (.slice aa (ns + 1) ca) ∧ w'.cell? ⟨P, 6, none⟩ = some (.int .i64 st) ∧ w'.cell? ⟨P, 8, none⟩ = some (.int .i64 (nb : Int)))
    (first | (exact ⟨c0, c2, c4, c5, c6, c8⟩) | (exact ⟨d0, d2, d4, d5, d6, d8⟩) | (exact ⟨e0, e2, e4, e5, e6, e8⟩))
    ((first
      | (go_at_call 54; refine (c137 W.drew ((Kp.refl _ _).drewN 1)).mono ?_; rintro e w1 ⟨rfl, rfl⟩)
      | (go_at_call 55; refine (setLen_any x _ hx).mono ?_; rintro e w1 ⟨rfl, rfl⟩)
      | (go_at_call 56; refine (c260 W.drew).mono ?_; rintro e w5 ⟨rfl, k5⟩; have d0 := k5.cellv c0 (by simp); have d2 := k5.cellv c2 (by simp); have d4 := k5.cellv c4 (by simp); have d5 := k5.cellv c5 (by simp); have d6 := k5.cellv c6 (by simp); have d8 := k5.cellv c8 (by simp); obtain ⟨g0, g1, g2, g3, g4, g5, f0, f1, f2, f3, f4, f5⟩ := six_cells (show w5.heap[w.heap.size]? = _ from k5.heap HR.out (by simp)); obtain ⟨W9, hW9⟩ : ∃ W9, (((((w5.setCell ⟨w.heap.size, 0, none⟩ (.int .i64 (num : Int))).setCell ⟨w.heap.size, 1, none⟩ (.int .i64 (nd : Int))).setCell ⟨w.heap.size, 2, none⟩ (.int .i64 ((Lib.onesCount x : Nat) : Int))).setCell ⟨w.heap.size, 3, none⟩ (.int .i64 (nt : Int))).setCell ⟨w.heap.size, 4, none⟩ (.int .i64 (ns : Int))).setCell ⟨w.heap.size, 5, none⟩ (.int .i64 (nb : Int)) = W9 := ⟨_, rfl⟩; have k9 : Kp [w.heap.size] w5 W9 := (by rw [← hW9]; exact ((((((Kp.refl _ _).setCell (.inl (by simp)) _).setCell (.inl (by simp)) _).setCell (.inl (by simp)) _).setCell (.inl (by simp)) _).setCell (.inl (by simp)) _).setCell (.inl (by simp)) _); have hp9 : P ∉ [w.heap.size] := (by simp; omega); have e0 := k9.cellv d0 hp9; have e2 := k9.cellv d2 hp9; have e4 := k9.cellv d4 hp9; have e5 := k9.cellv d5 hp9; have e6 := k9.cellv d6 hp9; have e8 := k9.cellv d8 hp9)))
  have hR9 : W9.heap[w.heap.size]? = some (.cells #[.int .i64 (num : Int), .int .i64 (nd : Int), .int .i64 ((Lib.onesCount x : Nat) : Int), .int .i64 (nt : Int), .int .i64 (ns : Int), .int .i64 (nb : Int)] 41 (0, 0)) := by
    have h5 : w5.heap[w.heap.size]? = some (.cells #[.int .i64 0, .int .i64 0, .int .i64 0, .int .i64 0, .int .i64 0, .int .i64 0] 41 (0, 0)) := k5.heap HR.out (by simp)
    have h6 := heap_setCell_same w5 w.heap.size 0 _ 41 (.int .i64 (num : Int)) h5
    have h7 := heap_setCell_same _ w.heap.size 1 _ 41 (.int .i64 (nd : Int)) h6
    have h8 := heap_setCell_same _ w.heap.size 2 _ 41 (.int .i64 ((Lib.onesCount x : Nat) : Int)) h7
    have h9 := heap_setCell_same _ w.heap.size 3 _ 41 (.int .i64 (nt : Int)) h8
    have h10 := heap_setCell_same _ w.heap.size 4 _ 41 (.int .i64 (ns : Int)) h9
    have h11 := heap_setCell_same _ w.heap.size 5 _ 41 (.int .i64 (nb : Int)) h10
    rw [← hW9]
    exact h11
  have kw5 : Kp [] w w5 := (k0.next ((Kp.refl [] W).drewN 1)).next k5
  have kw9 : Kp [] w W9 := kw5.trans k9 (by simp)
  obtain ⟨r0, r1, r2, r3, r4, r5, _⟩ := six_cells hR9
  clear c0 c1 c2 c3 c4 c5 c6 c7 c8 d0 d2 d4 d5 d6 d8 e0 e2 e4 e5 e6 e8 g0 g1 g2 g3 g4 g5 f0 f1 f2 f3 f4 f5 c137 c260 hW9
  go_wp2_with fail
  exact bodyPost_ret (v := .agg #[.int .i64 (num : Int), .int .i64 (nd : Int), .int .i64 ((Lib.onesCount x : Nat) : Int), .int .i64 (nt : Int), .int .i64 (ns : Int), .int .i64 (nb : Int)]) (by simp [results, Tryz.results22, go_sem, r0, r1, r2, r3, r4, r5]) rfl ⟨rfl, kw9⟩
end Go.Proofs.YtnffagpdnklnkaaGreatDoor.Pak
namespace Go.Proofs.YtnffagpdnklnkaaGreatDoor.Pak
open Go.RowKit Go.Proofs.YtnffagpdnklnkaaGreatDoor Go.Proofs.YtnffagpdnklnkaaGreatDoor.Spl SiftM
/-- A part of the program's index: its block, its segment's block, where all of that lies, what it holds. -/
structure PPt where
  p : Nat
  q : Nat
  lo : Nat
  hi : Nat
  num : Nat
  T : List Tx
  dead : Nat
  iv : Value
  tv : Value
  M : Nat
structure PartIs (w : World) (t : PPt) : Prop where
  cells : w.heap[t.p]? = some (.cells #[.pointer (some ⟨t.q, 0, none⟩), .int .u64 (t.dead : Int)] 81 (0, 0))
  seg : SegIs w t.lo t.hi t.q t.num t.T t.iv t.tv t.M
  fine : Fine t.T
  dlo : t.dead < 2 ^ t.T.length
  nlt : t.num ≤ 1000000
theorem PartIs.kp {S : List Nat} {w w' : World} {t : PPt} (h : PartIs w t) (k : Kp S w w') (hp : t.p ∉ S) (hS : ∀ x ∈ S, x < t.lo ∨ t.hi ≤ x) : PartIs w' t :=
  ⟨k.heap h.cells hp, h.seg.kp k hS, h.fine, h.dlo, h.nlt⟩
theorem PartIs.dlt {w : World} {t : PPt} (h : PartIs w t) : t.dead < 18446744073709551616 :=
  Nat.lt_of_lt_of_le h.dlo (by have h1 : 2 ^ t.T.length ≤ 2 ^ 64 := Nat.pow_le_pow_right (by omega) (by have := h.fine.len; omega); exact h1)
/-- The docs of a part that are not dead: their ids, and where they are. -/
def PPt.homes (t : PPt) : List (Nat × (Nat × Nat)) := ((List.range t.T.length).filter fun d => !t.dead.testBit d).map fun d => ((t.T.getD d (0, [])).1, (t.p, d))
def homL (Ps : List PPt) : List (Nat × (Nat × Nat)) := Ps.flatMap PPt.homes
def homF (Ps : List PPt) (id : Nat) : Option (Nat × Nat) := ((homL Ps).find? fun x => x.1 == id).map Prod.snd
def PPt.flags (t : PPt) : List Bool := (List.range t.T.length).map fun d => t.dead.testBit d
/-- What the program's index holds. -/
structure PSt where
  buf : Nat
  fac : Nat
  fv : Value
  last : Nat
  lit : Bool
  left : Int
  gv : Value
  G : List Tx
  gs : List Value
  pv : Value
  Ps : List PPt
  hb : Nat
  next : Nat
  mv : Value
  R : List Value
def pxA (s : PSt) : List Value := [.int .i64 (s.buf : Int), .int .i64 (s.fac : Int), s.fv, .int .i64 (s.last : Int), .bool s.lit, .int .i64 s.left, .bool false, s.gv, s.pv, .map (some s.hb), .int .i64 (s.next : Int), s.mv]
def pxC (s : PSt) : Array Value := (pxA s ++ s.R).toArray
def ptV (Ps : List PPt) : List Value := Ps.map fun t => Value.pointer (some ⟨t.p, 0, none⟩)
/-- A block that belongs to no segment. -/
def OutS (Ps : List PPt) (g : Nat) : Prop := ∀ t ∈ Ps, g < t.lo ∨ t.hi ≤ g
def isPtr : Value → Bool
  | .pointer _ => true
  | _ => false
/-- The program's index lies at X, all its blocks are among O. -/
structure PIs (w : World) (X B : Nat) (O : List Nat) (s : PSt) : Prop where
  blk : w.heap[X]? = some (.cells (pxC s) 72 (0, 0))
  rd : s.R.length = 4 ∧ ∀ v ∈ s.R, isPtr v = true
  low : B ≤ w.heap.size
  gath : TextsIs w B s.gv s.G s.gs
  word : ∀ t ∈ s.G, t.1 ≤ 99999 ∧ t.2.length ≤ 60 ∧ (lenF t.2 ≤ 120 ∧ sumL t.2 ≤ 121) ∧ ∀ x ∈ t.2, isWord x = true
  sort : SortT s.G
  parts : w.ownsRow B 76 1 s.pv s.Ps.length (ptV s.Ps)
  each : ∀ t ∈ s.Ps, PartIs w t
  hom : HomIs w s.hb (homL s.Ps).length (homF s.Ps)
  cnt : s.Ps.length ≤ s.next
  all60 : s.G.length + (homL s.Ps).length ≤ 60
  nodup : (s.G.map Prod.fst ++ (homL s.Ps).map Prod.fst).Nodup
  inX : X ∈ O
  inG : ∀ g, s.gv.ownBlock = some g → g ∈ O
  inW : ∀ u ∈ s.gs, ∀ g, u.ownBlock = some g → g ∈ O
  inP : ∀ g, s.pv.ownBlock = some g → g ∈ O
  inH : s.hb ∈ O
  inT : ∀ t ∈ s.Ps, t.p ∈ O
  inS : ∀ t ∈ s.Ps, ∀ x, t.lo ≤ x → x < t.hi → x ∈ O
  outX : OutS s.Ps X
  outG : ∀ g, s.gv.ownBlock = some g → OutS s.Ps g
  outP : ∀ g, s.pv.ownBlock = some g → OutS s.Ps g
  outH : OutS s.Ps s.hb
  outT : ∀ t ∈ s.Ps, OutS s.Ps t.p
  hiLe : ∀ t ∈ s.Ps, t.hi ≤ w.heap.size
  apart : s.Ps.Pairwise fun t u => t.p ≠ u.p
theorem PIs.kp {S O : List Nat} {w w' : World} {X B : Nat} {s : PSt} (h : PIs w X B O s) (k : Kp S w w') (hS : ∀ x ∈ S, x ∉ O) : PIs w' X B O s := by
  have hn : ∀ x ∈ O, x ∉ S := fun x hx hs => hS x hs hx
  refine ⟨k.heap h.blk (hn X h.inX), h.rd, Nat.le_trans h.low k.size, ?_, h.word, h.sort, k.owns h.parts (fun g hg => hn g (h.inP g hg)), ?_, h.hom.kp k (hn _ h.inH), h.cnt, h.all60, h.nodup, h.inX, h.inG, h.inW, h.inP, h.inH, h.inT, h.inS, h.outX, h.outG, h.outP, h.outH, h.outT, fun t ht => Nat.le_trans (h.hiLe t ht) k.size, h.apart⟩
  · exact h.gath.kp k (fun x hx e => hn x (h.inG x e) hx) (fun i hi x hx e => hn x (h.inW _ (List.getElem_mem hi) x e) hx)
  · intro t ht
    refine (h.each t ht).kp k (hn _ (h.inT t ht)) fun x hx => ?_
    rcases Nat.lt_or_ge x t.lo with h1 | h1
    · exact .inl h1
    · rcases Nat.lt_or_ge x t.hi with h2 | h2
      · exact absurd hx (hn x (h.inS t ht x h1 h2))
      · exact .inr h2
theorem PIs.more {w : World} {X B : Nat} {O O' : List Nat} {s : PSt} (h : PIs w X B O s) (hO : ∀ g ∈ O, g ∈ O') : PIs w X B O' s :=
  ⟨h.blk, h.rd, h.low, h.gath, h.word, h.sort, h.parts, h.each, h.hom, h.cnt, h.all60, h.nodup, hO X h.inX, fun g hg => hO g (h.inG g hg), fun u hu g hg => hO g (h.inW u hu g hg), fun g hg => hO g (h.inP g hg), hO _ h.inH, fun t ht => hO _ (h.inT t ht), fun t ht x h1 h2 => hO x (h.inS t ht x h1 h2), h.outX, h.outG, h.outP, h.outH, h.outT, h.hiLe, h.apart⟩
theorem px_cells {w : World} {X B : Nat} {O : List Nat} {s : PSt} (h : PIs w X B O s) : w.cell? ⟨X, 0, none⟩ = some (.int .i64 (s.buf : Int)) ∧ w.cell? ⟨X, 6, none⟩ = some (.bool false) ∧ w.cell? ⟨X, 7, none⟩ = some s.gv ∧ w.cell? ⟨X, 8, none⟩ = some s.pv ∧ w.cell? ⟨X, 9, none⟩ = some (.map (some s.hb)) ∧ w.cell? ⟨X, 10, none⟩ = some (.int .i64 (s.next : Int)) ∧ ∀ j, w.frozen? ⟨X, j, none⟩ = false := by
  have hb := h.blk
  refine ⟨?_, ?_, ?_, ?_, ?_, ?_, fun j => ?_⟩ <;> simp [World.cell?, World.frozen?, hb, pxC, pxA]
/-- What the program's index is, without the memory in which it lies. -/
def onP : Value → Bool
  | .pointer (some _) => true
  | _ => false
def PPt.abs (t : PPt) : DSg := ⟨t.num, t.T, t.flags⟩
def PSt.abs (s : PSt) : DSt := ⟨s.buf, s.fac, s.next, s.G, s.Ps.map PPt.abs, s.R.map onP⟩
theorem fst_getD (T : List Tx) (d : Nat) (h : d < T.length) : T.getD d (0, []) = T[d] := by simp [List.getD_eq_getElem?_getD, h]
theorem homes_live (t : PPt) : t.homes.map Prod.fst = t.abs.live.map Prod.fst := by
  unfold PPt.homes DSg.live PPt.abs PPt.flags
  simp only [List.map_map]
  have e : ∀ n, n ≤ t.T.length → (((List.range n).filter fun d => !t.dead.testBit d).map ((fun x : Nat × (Nat × Nat) => x.1) ∘ fun d => ((t.T.getD d (0, [])).1, (t.p, d)))) = ((((t.T.take n).zip ((List.range n).map fun d => t.dead.testBit d)).filter fun z => !z.2).map ((fun x : Tx => x.1) ∘ Prod.fst)) := by
    intro n
    induction n with
    | zero => intro _; simp
    | succ n ih =>
      intro hn
      have hlt : n < t.T.length := by omega
      rw [List.range_succ, List.filter_append, List.map_append, ih (by omega), List.map_append, List.take_succ_eq_append_getElem hlt, List.zip_append (by simp; omega), List.filter_append, List.map_append]
      congr 1
      cases hb : t.dead.testBit n <;> simp [hb, fst_getD t.T n hlt, hlt]
  have := e t.T.length (Nat.le_refl _)
  rw [List.take_length] at this
  exact this
theorem homL_ids (Ps : List PPt) : (homL Ps).map Prod.fst = ((Ps.map PPt.abs).flatMap DSg.live).map Prod.fst := by
  unfold homL
  induction Ps with
  | nil => rfl
  | cons t r ih => simp only [List.flatMap_cons, List.map_cons, List.map_append, homes_live, ih]
theorem abs_ids (s : PSt) : s.abs.ids = s.G.map Prod.fst ++ (homL s.Ps).map Prod.fst := by
  unfold DSt.ids DSt.all PSt.abs
  simp only [List.map_append]
  rw [homL_ids]
theorem abs_len (s : PSt) : s.abs.all.length = s.G.length + (homL s.Ps).length := by
  have h := congrArg List.length (abs_ids s)
  unfold DSt.ids at h
  simpa using h
theorem homF_some {Ps : List PPt} (hnd : ((homL Ps).map Prod.fst).Nodup) (id : Nat) (x : Nat × Nat) : homF Ps id = some x ↔ (id, x) ∈ homL Ps := by
  unfold homF
  constructor
  · intro h
    cases hf : (homL Ps).find? fun x => x.1 == id with
    | none => rw [hf] at h; simp at h
    | some y =>
      rw [hf] at h
      have h1 := List.find?_some hf
      have h2 := List.mem_of_find?_eq_some hf
      simp at h h1
      subst h h1
      exact h2
  · intro h
    cases hf : (homL Ps).find? fun x => x.1 == id with
    | none =>
      have := List.find?_eq_none.1 hf _ h
      simp at this
    | some y =>
      have h1 := List.find?_some hf
      have h2 := List.mem_of_find?_eq_some hf
      simp at h1
      obtain ⟨i, hi, rfl⟩ := List.mem_iff_getElem.1 h2
      obtain ⟨j, hj, e⟩ := List.mem_iff_getElem.1 h
      have hij : i = j := by
        have hpw := List.pairwise_iff_getElem.1 hnd
        rcases Nat.lt_trichotomy i j with h3 | h3 | h3
        · exact absurd (by rw [List.getElem_map, List.getElem_map, e]; exact h1) (hpw i j (by simpa using hi) (by simpa using hj) h3)
        · exact h3
        · exact absurd (by rw [List.getElem_map, List.getElem_map, e]; exact h1.symm) (hpw j i (by simpa using hj) (by simpa using hi) h3)
      subst hij
      simp [e]
theorem homF_isSome {Ps : List PPt} (id : Nat) : (homF Ps id).isSome = decide (id ∈ (homL Ps).map Prod.fst) := by
  unfold homF
  rw [Option.isSome_map]
  cases hf : (homL Ps).find? fun x => x.1 == id with
  | none =>
    have := List.find?_eq_none.1 hf
    have hno : id ∉ (homL Ps).map Prod.fst := by
      intro h
      obtain ⟨x, hx, e⟩ := List.mem_map.1 h
      exact this x hx (by simpa using e)
    simp [hno]
  | some y =>
    have h1 := List.find?_some hf
    have h2 := List.mem_of_find?_eq_some hf
    simp at h1
    have : id ∈ (homL Ps).map Prod.fst := List.mem_map.2 ⟨y, h2, h1⟩
    simp [this]
/-- May the settings be? -/
def cfgOk (b f : Int) : Bool := decide (1 ≤ b) && decide (b ≤ 8) && decide (2 ≤ f) && decide (f ≤ 4)
/-- A new index of the program's. -/
def newP (b f hb : Nat) (fv : Value) : PSt := ⟨b, f, fv, 0, false, 0, .slice none 0 0, [], [], .slice none 0 0, [], hb, 0, .pointer none, [.pointer none, .pointer none, .pointer none, .pointer none]⟩
theorem newP_is {w : World} {X B b f hb : Nat} {fv : Value} {O : List Nat} (h : w.heap[X]? = some (.cells (pxC (newP b f hb fv)) 72 (0, 0))) (hB : B ≤ w.heap.size) (hX : X ∈ O) (hH : hb ∈ O) (hm : HomIs w hb 0 fun _ => none) : PIs w X B O (newP b f hb fv) := by
  have e : homF (newP b f hb fv).Ps = fun _ => none := by funext id; rfl
  refine ⟨h, ⟨rfl, by simp [newP, isPtr]⟩, hB, TextsIs.nil _ _, fun t ht => by simp [newP] at ht, List.Pairwise.nil, World.ownsRow_nil _ _ _ _, fun t ht => by simp [newP] at ht, by rw [e]; exact hm, by simp [newP], by simp [newP, homL], by simp [newP, homL], hX, fun g hg => by simp [newP, Value.ownBlock] at hg, fun u hu => by simp [newP] at hu, fun g hg => by simp [newP, Value.ownBlock] at hg, hH, fun t ht => by simp [newP] at ht, fun t ht => by simp [newP] at ht, fun t ht => by simp [newP] at ht, fun g hg => by simp [newP, Value.ownBlock] at hg, fun g hg => by simp [newP, Value.ownBlock] at hg, fun t ht => by simp [newP] at ht, fun t ht => by simp [newP] at ht, fun t ht => by simp [newP] at ht, List.Pairwise.nil⟩
theorem TextsIs.lower {w : World} {B B' : Nat} {v : Value} {T : List Tx} {vs : List Value} (h : TextsIs w B v T vs) (hB : B' ≤ B) : TextsIs w B' v T vs :=
  ⟨h.len, owns_low h.row hB, fun i h1 h2 => owns_low (h.each i h1 h2) hB, h.apart⟩
theorem PIs.lower {w : World} {X B B' : Nat} {O : List Nat} {s : PSt} (h : PIs w X B O s) (hB : B' ≤ B) : PIs w X B' O s :=
  ⟨h.blk, h.rd, Nat.le_trans hB h.low, h.gath.lower hB, h.word, h.sort, owns_low h.parts hB, h.each, h.hom, h.cnt, h.all60, h.nodup, h.inX, h.inG, h.inW, h.inP, h.inH, h.inT, h.inS, h.outX, h.outG, h.outP, h.outH, h.outT, h.hiLe, h.apart⟩
set_option maxHeartbeats 2000000 in
theorem may_any (bI fI : Int) (w : World) :
    Calls Tryz.prog 27 #[.agg #[.int .i64 bI, .int .i64 fI]] w fun e w' => e = .returned (.bool (cfgOk bI fI)) ∧ Kp [] w w' := by
  obtain ⟨W1, hW1⟩ : ∃ W1, w.alloc (.cells #[.int .i64 bI, .int .i64 fI] 58) = W1 := ⟨_, rfl⟩
  have hb : W1.heap[w.heap.size]? = some (.cells #[.int .i64 bI, .int .i64 fI] 58 (0, 0)) := by rw [← hW1]; exact heap_alloc_new w _
  obtain ⟨c0, c1, f0, f1⟩ := rd_cells hb
  have k1 : Kp [] w W1 := by rw [← hW1]; exact (Kp.refl _ _).alloc _
  clear hb
  by_cases h1 : (1 : Int) ≤ bI
  case neg =>
    have : cfgOk bI fI = false := by unfold cfgOk; simp; omega
    rw [this]
    go_enter Tryz.func27, Tryz.ntmps27
    go_wp2_with fail
    go_ret
    exact ⟨rfl, k1⟩
  by_cases h2 : bI ≤ 8
  case neg =>
    have : cfgOk bI fI = false := by unfold cfgOk; simp; omega
    rw [this]
    go_enter Tryz.func27, Tryz.ntmps27
    go_wp2_with fail
    go_ret
    exact ⟨rfl, k1⟩
  by_cases h3 : (2 : Int) ≤ fI
  case neg =>
    have : cfgOk bI fI = false := by unfold cfgOk; simp; omega
    rw [this]
    go_enter Tryz.func27, Tryz.ntmps27
    go_wp2_with fail
    go_ret
    exact ⟨rfl, k1⟩
  by_cases h4 : fI ≤ 4
  case neg =>
    have : cfgOk bI fI = false := by unfold cfgOk; simp; omega
    rw [this]
    go_enter Tryz.func27, Tryz.ntmps27
    go_wp2_with fail
    go_ret
    exact ⟨rfl, k1⟩
  have : cfgOk bI fI = true := by unfold cfgOk; simp; omega
  rw [this]
  go_enter Tryz.func27, Tryz.ntmps27
  go_wp2_with fail
  go_ret
  exact ⟨rfl, k1⟩
end Go.Proofs.YtnffagpdnklnkaaGreatDoor.Pak
