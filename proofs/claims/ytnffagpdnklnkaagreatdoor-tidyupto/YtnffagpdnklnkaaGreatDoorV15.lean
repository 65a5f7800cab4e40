import Derived.Test.YtnffagpdnklnkaaGreatDoorV14
import Derived.Laws.Rows
set_option linter.unusedVariables false
set_option linter.unusedSimpArgs false
set_option maxRecDepth 8000
namespace Go.Proofs.YtnffagpdnklnkaaGreatDoor.Pak
open Go.RowKit Go.Proofs.YtnffagpdnklnkaaGreatDoor Go.Proofs.YtnffagpdnklnkaaGreatDoor.Spl SiftM Go.Maps
theorem anyH_tk {P : Program} {md : Region.Mode} {ops : Array Oper} {Q : Exit → Act → World → Prop} {S : World → Prop} (i d : Nat) (v : Value) {op : Op} {ty : TypeId} {pos : String} {after : Array Edge} {guard : Option (Nat × Bool)} {f : Nat} {l : Array Bool} {a : Act} {w : World} (hi : ops[i]? = some ⟨some d, op, ty, pos, after, guard⟩)
    (hy : YieldsIf P ops S ⟨some d, op, ty, pos, after, guard⟩ v a) (hS : S w)
    (h : wpAnyH P md ops Q S f (l.setIfInBounds i true) (a.put (some d) v) w) (hs : Region.noSelect ops = true := by kernel_rfl) (hf : Region.free md ops l i = true := by kernel_rfl) (hr : (Region.ready md ops l).contains i = true := by kernel_rfl)
    (hQ : ∀ c a w, Q (.panic c) (a.put (some d) v) w → Q (.panic c) a w := by exact fun _ _ _ h => h) : wpAnyH P md ops Q S (f + 1) l a w :=
  wpAnyH_take hi hs hf hr hQ hy hS h
/-- A builder that knows these states. -/
structure Bl (w : World) (b B M M2 : Nat) (aa : Option Addr) (ca : Nat) (st : Int) (A : List (Bool × Int)) (kn : List St.Ex) : Prop where
  heap : w.heap[b]? = some (.cells #[.map (some M), .map (some M2), .slice aa (kn.length + 1) ca, .int .i64 st] 237 (0, 0))
  known : KnIs w M kn
  lead : LeadIs w M2 (kn.length * 36)
  about : w.ownsRow B 307 2 (.slice aa (kn.length + 1) ca) (kn.length + 1) (abV A)
  len : A.length = kn.length + 1
  ne : M ≠ M2
  hb : B ≤ b
  hM : B ≤ M
  hM2 : B ≤ M2
  ok : ∀ x ∈ kn, OkE x
def Bld (w : World) (b B : Nat) (kn : List St.Ex) : Prop := ∃ M M2 aa ca st A, Bl w b B M M2 aa ca st A kn

theorem Bl.bM {w : World} {b B M M2 : Nat} {aa : Option Addr} {ca : Nat} {st : Int} {A : List (Bool × Int)} {kn : List St.Ex} (h : Bl w b B M M2 aa ca st A kn) : b ≠ M := by
  intro e
  obtain ⟨es, cl, h1⟩ := h.known.block
  rw [← e, h.heap] at h1; simp at h1
theorem Bl.aM {w : World} {b B M M2 : Nat} {aa : Option Addr} {ca : Nat} {st : Int} {A : List (Bool × Int)} {kn : List St.Ex} (h : Bl w b B M M2 aa ca st A kn) : (Value.slice aa (kn.length + 1) ca).ownBlock ≠ some M := by
  obtain ⟨es, cl, h1⟩ := h.known.block
  exact owns_ne_obj h.about h1
theorem Bl.kp0 {w w' : World} {b B M M2 : Nat} {aa : Option Addr} {ca : Nat} {st : Int} {A : List (Bool × Int)} {kn : List St.Ex} (h : Bl w b B M M2 aa ca st A kn) (k : Kp [] w w') : Bl w' b B M M2 aa ca st A kn :=
  ⟨k.heap h.heap (by simp), h.known.kp k (by simp), h.lead.kp k (by simp), k.owns h.about (by simp), h.len, h.ne, h.hb, h.hM, h.hM2, h.ok⟩

/-- The blocks of exits are kept. -/
def Kx (w w' : World) : Prop := ∀ (k : Nat) (cs : Array Value) (fr : Nat × Nat), w.heap[k]? = some (.cells cs 267 fr) → w'.heap[k]? = some (.cells cs 267 fr)
theorem Kx.trans {a b c : World} (h : Kx a b) (h' : Kx b c) : Kx a c := fun k cs fr hk => h' k cs fr (h k cs fr hk)
theorem kx_kp {S : List Nat} {w w' : World} (k : Kp S w w') (hS : ∀ x ∈ S, ∀ cs fr, w.heap[x]? ≠ some (.cells cs 267 fr)) : Kx w w' := fun i cs fr hi => k.heap hi fun hx => hS i hx cs fr hi
theorem region_any_world {P : Program} {ops : Array Oper} {Q : Exit → Act → World → Prop} {S : World → Prop} {id : Nat} {a : Act} {w : World} (hm : P.follows .mixedOrders = true)
    (h : ∀ w1 : World, Kp [] w w1 → w1.heap = w.heap → wpAnyH P .any ops Q S ops.size (Array.replicate ops.size false) a w1) : (Code.region id ops true).wp P Q a w :=
  wp_region_held hm (h _ ((Kp.refl _ _).drewN 1) rfl)
theorem last_update {P : Program} {md : Region.Mode} {ops : Array Oper} {Q : Exit → Act → World → Prop} {S : World → Prop} {fuel : Nat} {listed : Array Bool} {a : Act} {w w' : World} {i : Nat} {o : Oper} {t : TypeId} {m k v : Operand}
    (hr : Region.ready md ops listed = [i]) (ho : ops[i]? = some o) (hw : Region.wanted o (yielded ops a.tmps) = true) (hop : o.op = .mapUpdate t m k v) (hd : o.dst = none)
    (hrun : (Instr.mapUpdate t (a.eval m) (a.eval k) (a.eval v)).run P w = .ok () w') (hS : S w') (hfin : Region.ready md ops (listed.setIfInBounds i true) = []) (h : Q .normal a w') : wpAnyH P md ops Q S (fuel + 1) listed a w := by
  refine wpAnyH_ready hr (by simp) (AllReadyH.cons ho (fun K hK => ?_) AllReadyH.nil)
  rw [if_pos hw]
  unfold Oper.wp execOp
  simp only [hop, Sem.run_bind, hrun, Result.andThen_ok, Sem.run_pure]
  have hp : ∀ u : Value, a.put o.dst u = a := fun u => by rw [hd]; rfl
  simp only [Oper.upon, hp]
  exact hK.out a w' hS (fun _ => wpAnyH_done hfin h _)
theorem last_call {P : Program} {md : Region.Mode} {ops : Array Oper} {Q : Exit → Act → World → Prop} {S : World → Prop} {fuel : Nat} {listed : Array Bool} {a : Act} {w : World} {i : Nat} {o : Oper} {f : FuncId} {args : Array Value} {Post : Value → World → Prop}
    (hr : Region.ready md ops listed = [i]) (ho : ops[i]? = some o) (hw : Region.wanted o (yielded ops a.tmps) = true) (hex : (execOp a.eval o).run P w = .ok (.enter f args) w)
    (hc : Calls P f args w fun r w' => ∃ v, r = .returned v ∧ Post v w') (hS : ∀ v w', Post v w' → S w') (hfin : Region.ready md ops (listed.setIfInBounds i true) = []) (h : ∀ v w', Post v w' → Q .normal (a.put o.dst v) w') : wpAnyH P md ops Q S (fuel + 1) listed a w := by
  refine wpAnyH_ready hr (by simp) (AllReadyH.cons ho (fun K hK => ?_) AllReadyH.nil)
  rw [if_pos hw]
  unfold Oper.wp
  rw [hex]
  refine hc.mono ?_
  rintro r w' ⟨v, rfl, hp⟩
  exact hK.out _ w' (hS v w' hp) (fun _ => wpAnyH_done hfin (h v w' hp) _)
theorem info429 : (Tryz.prog.info? 267).map (·.size) = some 37 := by kernel_rfl

set_option maxHeartbeats 2000000 in
theorem stateOf_any (b B : Nat) (kn : List St.Ex) (e : St.Ex) (w : World) (h : Bld w b B kn) (he : OkE e) (hlt : ∀ x ∈ e.to, x ≤ kn.length) (hkn : kn.length ≤ 500000) (hB : B ≤ w.heap.size) :
    Calls Tryz.prog 197 #[.pointer (some ⟨b, 0, none⟩), .agg (exC e).toArray] w fun r w' => r = .returned (.int .i64 (((St.stOf kn e).1 : Nat) : Int)) ∧ Bld w' b B (St.stOf kn e).2 ∧ Below B w w' ∧ Kx w w' := by
  obtain ⟨M, M2, aa, ca, st, A, hb⟩ := h
  obtain ⟨W, hW⟩ : ∃ W, w.alloc (.cells (exC e).toArray 267) = W := ⟨_, rfl⟩
  have k0 : Kp [] w W := by rw [← hW]; exact (Kp.refl _ _).alloc _
  have HX : Hid (W.heap[w.heap.size]? = some (.cells (exC e).toArray 267 (0, 0))) := by show _ = _; rw [← hW]; exact heap_alloc_new w _
  have hsz : Hid ((Tryz.prog.info? 267).map (·.size) = some (exC e).length) := by show _ = _; rw [info429]; simp [exC, he.1]
  have HB0 := hide hb
  have hL0 : Hid (b < w.heap.size) := heap_lt hb.heap
  have hL1 : Hid (M2 < w.heap.size) := hb.lead.lt
  have hL2 : Hid (∀ g, (Value.slice aa (kn.length + 1) ca).ownBlock = some g → g < w.heap.size) := fun g hg => (hb.about.lt g hg).2
  replace hb := hb.kp0 k0
  obtain ⟨c0, c1, c2, c3, f2, f3⟩ := bd_cells hb.heap
  have HS : Hid (∀ w' : World, w'.heap = W.heap → w'.rangeAt w.heap.size 0 (exC e) ∧ w'.cell? ⟨b, 0, none⟩ = some (.map (some M)) ∧ (Instr.lookup 235 (.map (some M)) (.agg (exC e).toArray) true).run Tryz.prog w' = .ok (.tuple #[.int .i64 (lookX kn e), .bool (decide (e ∈ kn))]) w') := by
    intro w' hw'
    have hX' : w'.heap[w.heap.size]? = some (.cells (exC e).toArray 267 (0, 0)) := by rw [hw']; exact HX.out
    have hb' : w'.heap[b]? = some (.cells #[.map (some M), .map (some M2), .slice aa (kn.length + 1) ca, .int .i64 st] 237 (0, 0)) := by rw [hw']; exact hb.heap
    refine ⟨fun j v hv => ?_, (bd_cells hb').1, ?_⟩
    · rw [cell_of_row w' _ _ _ _ _ hX']
      simpa using hv
    · refine KnIs.look ?_ e he
      obtain ⟨D, ⟨es, clock, h1, h2⟩, h3⟩ := hb.known
      exact ⟨D, ⟨es, clock, by rw [hw']; exact h1, h2⟩, h3⟩
  have HB := hide hb
  have HE := hide he
  have HLT := hide hlt
  clear hb
  obtain ⟨fd, hfd⟩ : ∃ fd, decide (e ∈ kn) = fd := ⟨_, rfl⟩
  obtain ⟨x, hx⟩ : ∃ x, lookX kn e = x := ⟨_, rfl⟩
  rw [hfd, hx] at HS
  have HFD := hide hfd
  have HX2 := hide hx
  clear hfd hx
  obtain ⟨rs, hrs⟩ : ∃ rs, St.stOf kn e = rs := ⟨_, rfl⟩
  rw [hrs]
  have HRS := hide hrs
  clear hrs
  go_enter Tryz.func197, Tryz.ntmps197
  go_wp2_with fail
  clear hW
  refine region_any_world (S := fun w' => w'.heap = W.heap) (by kernel_rfl) fun W1 k1 hh => ?_
  refine anyH_tk 0 9 (.pointer (some ⟨b, 0, none⟩)) rfl (Or.inl ⟨by rfl, fun w' hS => by go_simp⟩) hh ?_
  simp only [Act.put, List.setIfInBounds_toArray, List.set_cons_zero, List.set_cons_succ]
  refine anyH_tk 1 10 (.pointer (some ⟨b, 0, none⟩)) rfl (Or.inl ⟨by rfl, fun w' hS => by go_simp⟩) hh ?_
  simp only [Act.put, List.setIfInBounds_toArray, List.set_cons_zero, List.set_cons_succ]
  refine anyH_tk 2 11 (.pointer (some ⟨b, 0, none⟩)) rfl (Or.inl ⟨by rfl, fun w' hS => by go_simp⟩) hh ?_
  simp only [Act.put, List.setIfInBounds_toArray, List.set_cons_zero, List.set_cons_succ]
  refine anyH_tk 3 12 (.map (some M)) rfl (Or.inl ⟨by rfl, fun w' hS => by have c0' := (HS.out w' hS).2.1; go_simp⟩) hh ?_
  simp only [Act.put, List.setIfInBounds_toArray, List.set_cons_zero, List.set_cons_succ]
  refine anyH_tk 4 13 (.agg (exC e).toArray) rfl (yieldsIf_load_mid (by rfl) 267 _ rfl w.heap.size 0 rfl (exC e) _ (fun w' hS => (HS.out w' hS).1) Tryz.underlying267 rfl hsz.out) hh ?_
  simp only [Act.put, List.setIfInBounds_toArray, List.set_cons_zero, List.set_cons_succ]
  refine anyH_tk 5 14 (.tuple #[.int .i64 x, .bool fd]) rfl (Or.inl ⟨by rfl, fun w' hS => by have hl := (HS.out w' hS).2.2; go_simp⟩) hh ?_
  simp only [Act.put, List.setIfInBounds_toArray, List.set_cons_zero, List.set_cons_succ]
  refine anyH_tk 6 8 (.tuple #[.int .i64 x, .bool fd]) rfl (Or.inl ⟨by rfl, fun w' hS => by go_simp⟩) hh ?_
  simp only [Act.put, List.setIfInBounds_toArray, List.set_cons_zero, List.set_cons_succ]
  refine anyH_tk 7 15 (.int .i64 x) rfl (Or.inl ⟨by rfl, fun w' hS => by go_simp⟩) hh ?_
  simp only [Act.put, List.setIfInBounds_toArray, List.set_cons_zero, List.set_cons_succ]
  refine anyH_tk 8 16 (.bool fd) rfl (Or.inl ⟨by rfl, fun w' hS => by go_simp⟩) hh ?_
  simp only [Act.put, List.setIfInBounds_toArray, List.set_cons_zero, List.set_cons_succ]
  refine anyH_tk 9 5 (.int .i64 x) rfl (Or.inl ⟨by rfl, fun w' hS => by go_simp⟩) hh ?_
  simp only [Act.put, List.setIfInBounds_toArray, List.set_cons_zero, List.set_cons_succ]
  refine anyH_tk 10 6 (.bool fd) rfl (Or.inl ⟨by rfl, fun w' hS => by go_simp⟩) hh ?_
  simp only [Act.put, List.setIfInBounds_toArray, List.set_cons_zero, List.set_cons_succ]
  refine wpAnyH_done (by kernel_rfl) ?_ _
  have k01 : Kp [] w W1 := k0.next k1
  replace HB := hide (HB.out.kp0 k1)
  replace HX := hide (k1.heap HX.out (by simp))
  clear hh HS c0 c1 c2 c3 f2 f3
  obtain ⟨c0, c1, c2, c3, f2, f3⟩ := bd_cells HB.out.heap
  cases fd with
  | true =>
    have hin : e ∈ kn := of_decide_eq_true HFD.out
    have hst : rs = (kn.idxOf e + 1, kn) := by rw [← HRS.out]; unfold St.stOf; rw [if_pos hin]
    have hx2 : x = ((kn.idxOf e + 1 : Nat) : Int) := by rw [← HX2.out]; unfold lookX; rw [if_pos hin]
    subst hst
    subst hx2
    clear hin HX2 HFD HRS
    go_wp2_with fail
    go_ret
    exact ⟨rfl, ⟨M, M2, aa, ca, st, A, HB.out⟩, k01.below hB (by simp), kx_kp k01 (by simp)⟩
  | false =>
    have hin : e ∉ kn := of_decide_eq_false HFD.out
    have hst : rs = (kn.length + 1, kn ++ [e]) := by rw [← HRS.out]; unfold St.stOf; rw [if_neg hin]
    subst hst
    have HIN := hide hin
    clear hin HX2 HFD HRS
    have hi1 : ((kn.length + 1 : Nat) : Int) = (kn.length : Int) + 1 := by omega
    have k01W : Kp [] w W1 := k01
    go_wp2_with fail
    refine region_any_world (S := fun w' => w'.cell? ⟨b, 0, none⟩ = some (.map (some M)) ∧ w'.rangeAt w.heap.size 0 (exC e)) (by kernel_rfl) fun W2 k2 hh2 => ?_
    have hB2 := HB.out.kp0 k2
    have hX2 := k2.heap HX.out (by simp)
    have hrg : ∀ u : World, u.heap[w.heap.size]? = some (.cells (exC e).toArray 267 (0, 0)) → u.rangeAt w.heap.size 0 (exC e) := fun u hu j v hv => by
      rw [cell_of_row u _ _ _ _ _ hu]
      simpa using hv
    have hh : W2.cell? ⟨b, 0, none⟩ = some (.map (some M)) ∧ W2.rangeAt w.heap.size 0 (exC e) := ⟨(bd_cells hB2.heap).1, hrg W2 hX2⟩
    obtain ⟨W3, hrun, hkn3, hk3⟩ := hB2.known.store (by omega) e HE.out HIN.out hB2.ok
    have hMX : w.heap.size ≠ M := by
      have := hB2.known.block
      obtain ⟨es, cl, h1⟩ := this
      intro e'
      rw [← e', hX2] at h1; simp at h1
    have hX3 := hk3.heap hX2 (by simpa using hMX)
    have hb3 := hk3.heap hB2.heap (by simpa using hB2.bM)
    rw [hi1] at hrun
    refine anyH_tk 0 25 (.pointer (some ⟨b, 0, none⟩)) rfl (Or.inl ⟨by rfl, fun w' hS => by go_simp⟩) hh ?_
    simp only [Act.put, List.setIfInBounds_toArray, List.set_cons_zero, List.set_cons_succ]
    refine anyH_tk 1 26 (.pointer (some ⟨b, 0, none⟩)) rfl (Or.inl ⟨by rfl, fun w' hS => by go_simp⟩) hh ?_
    simp only [Act.put, List.setIfInBounds_toArray, List.set_cons_zero, List.set_cons_succ]
    refine anyH_tk 2 27 (.pointer (some ⟨b, 0, none⟩)) rfl (Or.inl ⟨by rfl, fun w' hS => by go_simp⟩) hh ?_
    simp only [Act.put, List.setIfInBounds_toArray, List.set_cons_zero, List.set_cons_succ]
    refine anyH_tk 3 28 (.map (some M)) rfl (Or.inl ⟨by rfl, fun w' hS => by have c0' := hS.1; go_simp⟩) hh ?_
    simp only [Act.put, List.setIfInBounds_toArray, List.set_cons_zero, List.set_cons_succ]
    refine anyH_tk 4 29 (.agg (exC e).toArray) rfl (yieldsIf_load_mid (by rfl) 267 _ rfl w.heap.size 0 rfl (exC e) _ (fun w' hS => hS.2) Tryz.underlying267 rfl hsz.out) hh ?_
    simp only [Act.put, List.setIfInBounds_toArray, List.set_cons_zero, List.set_cons_succ]
    refine anyH_tk 5 30 (.int .i64 ((kn.length : Int) + 1)) rfl (Or.inl ⟨by rfl, fun w' hS => by go_simp⟩) hh ?_
    simp only [Act.put, List.setIfInBounds_toArray, List.set_cons_zero, List.set_cons_succ]
    refine last_update (i := 6) (o := { dst := none, op := .mapUpdate 235 (.tmp 28) (.tmp 29) (.tmp 30), type := _, pos := _, after := _, guard := _ }) (by kernel_rfl) rfl (by rfl) rfl rfl hrun ⟨(bd_cells hb3).1, hrg W3 hX3⟩ (by kernel_rfl) ?_
    have hl3 := hB2.lead.kp hk3 (by simpa using hB2.ne.symm)
    have ho3 := hk3.owns hB2.about (fun g hg hx => by simp at hx; subst hx; exact hB2.aM hg)
    have hz3 := hk3.size
    have hz2 := k2.size
    have hz1 := k01.size
    have hput := fun (u : World) (k : Kp [] W3 u) => put_any b M2 B (kn.length * 36) (kn.length + 1) (kn.length + 1) e (.map (some M)) st aa ca A u HE.out (fun x hx => by have := HLT.out x hx; omega) hB2.len (by omega) (by omega) (by omega) (k.heap hb3 (by simp)) (hl3.kp k (by simp)) (k.owns ho3 (by simp)) (by have := k.size; omega)
    simp only [hi1] at hput
    have HP := hide hput
    have HKN := hide hkn3
    have HX3 := hide hX3
    have HBM := hide hB2.bM
    have HAM := hide hB2.aM
    have HLN := hide hB2.len
    have HNE := hide hB2.ne
    have HbB := hide hB2.hb
    have HMB := hide hB2.hM
    have HM2B := hide hB2.hM2
    have HOK := hide hB2.ok
    have HAB := hide hB2.about
    have kw3 : Kp [M] w W3 := ((k01.mono (by simp)).next (k2.mono (by simp))).next hk3
    have hrg3 := hide (hrg W3 hX3)
    obtain ⟨c0, c1, c2, c3, f2, f3⟩ := bd_cells hb3
    clear hput hkn3 hX3 hB2 hX2 hh hrun hl3 ho3 hb3 hrg hk3 k2 hh2
    go_wp2_with fail
    refine region_any_world (S := fun w' => w'.rangeAt w.heap.size 0 (exC e)) (by kernel_rfl) fun W4 k4 hh4 => ?_
    have hrg4 : W4.rangeAt w.heap.size 0 (exC e) := fun j v hv => k4.cellv (hrg3.out j v hv) (by simp)
    refine anyH_tk 0 31 (.pointer (some ⟨b, 0, none⟩)) rfl (Or.inl ⟨by rfl, fun w' hS => by go_simp⟩) hrg4 ?_
    simp only [Act.put, List.setIfInBounds_toArray, List.set_cons_zero, List.set_cons_succ]
    refine anyH_tk 1 32 (.pointer (some ⟨b, 0, none⟩)) rfl (Or.inl ⟨by rfl, fun w' hS => by go_simp⟩) hrg4 ?_
    simp only [Act.put, List.setIfInBounds_toArray, List.set_cons_zero, List.set_cons_succ]
    refine anyH_tk 2 33 (.pointer (some ⟨b, 1, none⟩)) rfl (Or.inl ⟨by rfl, fun w' hS => by go_simp⟩) hrg4 ?_
    simp only [Act.put, List.setIfInBounds_toArray, List.set_cons_zero, List.set_cons_succ]
    refine anyH_tk 3 34 (.int .i64 ((kn.length : Int) + 1)) rfl (Or.inl ⟨by rfl, fun w' hS => by go_simp⟩) hrg4 ?_
    simp only [Act.put, List.setIfInBounds_toArray, List.set_cons_zero, List.set_cons_succ]
    refine anyH_tk 4 35 (.agg (exC e).toArray) rfl (yieldsIf_load_mid (by rfl) 267 _ rfl w.heap.size 0 rfl (exC e) _ (fun w' hS => hS) Tryz.underlying267 rfl hsz.out) hrg4 ?_
    simp only [Act.put, List.setIfInBounds_toArray, List.set_cons_zero, List.set_cons_succ]
    refine last_call (i := 5) (o := { dst := some 36, op := _, type := _, pos := _, after := _, guard := _ }) (f := 223) (args := #[.pointer (some ⟨b, 1, none⟩), .int .i64 ((kn.length : Int) + 1), .agg (exC e).toArray]) (Post := fun v w' => w'.rangeAt w.heap.size 0 (exC e) ∧ ∃ (aa' : Option Addr) (ca' : Nat) (A' : List (Bool × Int)), A'.length = kn.length + 1 + 1 ∧ w'.heap[b]? = some (.cells #[.map (some M), .map (some M2), .slice aa' (kn.length + 1 + 1) ca', .int .i64 st] 237 (0, 0)) ∧ LeadIs w' M2 (kn.length * 36 + 36) ∧ w'.ownsRow B 307 2 (.slice aa' (kn.length + 1 + 1) ca') (kn.length + 1 + 1) (abV A') ∧ Kp (b :: M2 :: (Value.slice aa (kn.length + 1) ca).ownBlock.toList) W4 w') (by kernel_rfl) rfl (by rfl) (by go_simp) ?_ (fun v w' h => h.1) (by kernel_rfl) ?_
    · refine (HP.out W4 k4).mono ?_
      rintro r w' ⟨rfl, aa', ca', A', h1, h2, h3, h4, h5⟩
      refine ⟨_, rfl, fun j v hv => h5.cellv (hrg4 j v hv) ?_, aa', ca', A', h1, h2, h3, h4, h5⟩
      intro hx
      simp only [List.mem_cons] at hx
      rcases hx with hx | hx | hx
      · have := hL0.out; omega
      · have := hL1.out; omega
      · have := hL2.out w.heap.size (by simpa using hx); omega
    · rintro v w' ⟨_, aa', ca', A', h1, h2, h3, h4, h5⟩
      simp only [Act.put, List.setIfInBounds_toArray, List.set_cons_zero, List.set_cons_succ]
      have hMn : M ∉ b :: M2 :: (Value.slice aa (kn.length + 1) ca).ownBlock.toList := by
        intro hx
        simp only [List.mem_cons] at hx
        rcases hx with hx | hx | hx
        · exact HBM.out hx.symm
        · exact HNE.out hx
        · exact HAM.out (by simpa using hx)
      have hkn5 := (HKN.out.kp k4 (by simp)).kp h5 hMn
      have hlen : (kn ++ [e]).length = kn.length + 1 := by simp
      have hbl : Bl w' b B M M2 aa' ca' st A' (kn ++ [e]) := ⟨by rw [hlen]; exact h2, hkn5, by rw [hlen]; exact lead_more h3 (by omega), by rw [hlen]; exact h4, by rw [hlen]; exact h1, HNE.out, HbB.out, HMB.out, HM2B.out, fun x hx => by
        rcases List.mem_append.1 hx with hx | hx
        · exact HOK.out x hx
        · simp at hx; subst hx; exact HE.out⟩
      have hbel : Below B w w' ∧ Kx w w' := by
        have k5 : Kp (M :: b :: M2 :: (Value.slice aa (kn.length + 1) ca).ownBlock.toList) w w' := ((kw3.mono (by simp)).next (k4.mono (by simp))).next (h5.mono (by
          intro x hx; exact List.mem_cons_of_mem _ hx))
        refine ⟨k5.below hB ?_, kx_kp k5 ?_⟩
        rotate_left
        · intro x hx cs fr hk
          simp only [List.mem_cons] at hx
          rcases hx with rfl | rfl | rfl | hx
          · obtain ⟨es, cl, h⟩ := HB0.out.known.block
            rw [h] at hk; simp at hk
          · rw [HB0.out.heap] at hk; simp at hk
          · obtain ⟨es, cl, h⟩ := HB0.out.lead.block
            rw [h] at hk; simp at hk
          · exact owns_ne HB0.out.about hk (by decide) (by simpa using hx)
        intro x hx
        simp only [List.mem_cons] at hx
        rcases hx with rfl | rfl | rfl | hx
        · exact HMB.out
        · exact HbB.out
        · exact HM2B.out
        · exact (HAB.out.lt x (by simpa using hx)).1
      have HBL := hide hbl
      have HBE := hide hbel
      clear hbl hbel hkn5 h1 h2 h3 h4 h5 c0 c1 c2 c3 f2 f3
      go_wp2_with fail
      go_ret
      exact ⟨by show Ending.returned (Value.int .i64 ((kn.length : Int) + 1)) = Ending.returned (Value.int .i64 ((kn.length + 1 : Nat) : Int)); rw [hi1], ⟨M, M2, aa', ca', st, A', HBL.out⟩, HBE.out⟩
/-- What of the words is behind their first p bytes. -/
def tails (L : List (List UInt8)) (p : Nat) : List St.Wd := L.map fun t => (St.sw t).drop p
theorem tails_len (L : List (List UInt8)) (p : Nat) : (tails L p).length = L.length := by simp [tails]
theorem tails_take (L : List (List UInt8)) (p c : Nat) : ((tails L p).take c).map List.tail = tails (L.take c) (p + 1) := by
  unfold tails
  rw [← List.map_take, List.map_map]
  apply List.map_congr_left
  intro t _
  simp [List.tail_drop]
theorem tails_drop (L : List (List UInt8)) (p c : Nat) : (tails L p).drop c = tails (L.drop c) p := by unfold tails; rw [List.map_drop]
theorem hd_drop (t : List UInt8) (p : Nat) (h : p < t.length) : St.hd ((St.sw t).drop p) = St.slot (t.getD p 0) := by
  have h2 : p < (St.sw t).length := by simpa [St.sw] using h
  rw [List.drop_eq_getElem_cons h2]
  simp [St.hd, St.sw, List.getD_eq_getElem?_getD, List.getElem?_eq_getElem h]
theorem tw_map {α β : Type} (f : α → β) (q : β → Bool) : ∀ l : List α, ((l.map f).takeWhile q).length = (l.takeWhile (fun x => q (f x))).length
  | [] => rfl
  | a :: l => by
    rw [List.map_cons, List.takeWhile_cons, List.takeWhile_cons]
    split
    · simp [tw_map f q l]
    · rfl
theorem tw_congr {α : Type} {p q : α → Bool} : ∀ l : List α, (∀ x ∈ l, p x = q x) → (l.takeWhile p).length = (l.takeWhile q).length
  | [], _ => rfl
  | a :: l, h => by
    rw [List.takeWhile_cons, List.takeWhile_cons, h a (by simp)]
    split
    · simp [tw_congr l fun x hx => h x (by simp [hx])]
    · rfl
theorem same_tails (R : List (List UInt8)) (p : Nat) (hR : ∀ t ∈ R, p < t.length ∧ St.Small t) : St.same (tails R p) = sameB R p := by
  cases R with
  | nil => rfl
  | cons t0 R =>
    unfold St.same sameB
    have h0 := hR t0 (by simp)
    have hh : (tails (t0 :: R) p).headD [] = (St.sw t0).drop p := rfl
    rw [hh, List.headD_cons]
    unfold tails
    rw [tw_map]
    apply tw_congr
    intro t ht
    have h1 := hR t ht
    rw [hd_drop t p h1.1, hd_drop t0 p h0.1, Bool.eq_iff_iff, beq_iff_eq, beq_iff_eq]
    have hm : ∀ (s : List UInt8), p < s.length → St.Small s → St.Sm (s.getD p 0) := fun s hs hsm => by
      rw [List.getD_eq_getElem?_getD, List.getElem?_eq_getElem hs]; exact hsm _ (List.getElem_mem hs)
    exact ⟨St.slot_inj (hm t h1.1 h1.2) (hm t0 h0.1 h0.2), fun e => by rw [e]⟩
theorem sameB_pos (R : List (List UInt8)) (p : Nat) (h : R ≠ []) : 1 ≤ sameB R p ∧ sameB R p ≤ R.length := by
  cases R with
  | nil => exact absurd rfl h
  | cons t R =>
    unfold sameB
    rw [List.takeWhile_cons_of_pos (by simp)]
    constructor
    · simp
    · have := (List.takeWhile_prefix (l := R) fun t' => t'.getD p 0 == ((t :: R).headD []).getD p 0).length_le
      simp only [List.length_cons]; omega

theorem stOf_le (kn : List St.Ex) (e : St.Ex) : (St.stOf kn e).1 ≤ (St.stOf kn e).2.length ∧ kn.length ≤ (St.stOf kn e).2.length ∧ (St.stOf kn e).2.length ≤ kn.length + 1 := by
  unfold St.stOf
  by_cases h : e ∈ kn
  · rw [if_pos h]
    have := List.idxOf_lt_length_of_mem h
    exact ⟨by show kn.idxOf e + 1 ≤ kn.length; omega, by simp, by simp⟩
  · rw [if_neg h]; simp

def sz0 (D : List St.Wd) : Nat := (D.map List.length).sum
def sz1 (D : List St.Wd) : Nat := sz0 D + D.length
theorem sz0_app (A B : List St.Wd) : sz0 (A ++ B) = sz0 A + sz0 B := by simp [sz0]
theorem sz0_split (D : List St.Wd) (c : Nat) : sz0 D = sz0 (D.take c) + sz0 (D.drop c) := by
  rw [← sz0_app, List.take_append_drop]
theorem sz1_tails : ∀ (D : List St.Wd), (∀ d ∈ D, d ≠ []) → sz1 (D.map List.tail) = sz0 D
  | [], _ => rfl
  | d :: D, h => by
    have ih := sz1_tails D fun x hx => h x (by simp [hx])
    have hd := h d (by simp)
    cases d with
    | nil => exact absurd rfl hd
    | cons a b =>
      simp only [sz1, sz0, List.map_cons, List.sum_cons, List.length_cons, List.tail_cons] at ih ⊢
      omega
/-- A builder that grows a little. -/
def Little (bh : List St.Wd → List St.Ex → Nat × List St.Ex) : Prop := ∀ D kn, D ≠ [] → St.Srt D → (bh D kn).1 ≤ (bh D kn).2.length ∧ kn.length ≤ (bh D kn).2.length ∧ (bh D kn).2.length ≤ kn.length + sz1 D
theorem same_pos (D : List St.Wd) (h : D ≠ []) : 1 ≤ St.same D := by
  cases D with
  | nil => exact absurd rfl h
  | cons d D =>
    unfold St.same
    rw [List.headD_cons, List.takeWhile_cons_of_pos (by simp)]; simp
theorem srt_group (D : List St.Wd) (h : St.Srt D) (hne : ∀ d ∈ D, d ≠ []) : St.Srt ((D.take (St.same D)).map List.tail) := by
  have hg : (D.take (St.same D)).map List.tail = St.after (St.hd (D.headD [])) (D.take (St.same D)) := by
    apply St.group_tails
    · exact fun x hx => hne x (List.mem_of_mem_take hx)
    · intro x hx
      rw [St.take_same] at hx
      simpa using List.all_eq_true.1 (List.all_takeWhile (p := fun x => St.hd x == St.hd (D.headD [])) (l := D)) x hx
  rw [hg]
  exact St.srt_after _ (List.Pairwise.sublist (List.take_sublist _ _) h)
theorem grp_little (bh : List St.Wd → List St.Ex → Nat × List St.Ex) (hb : Little bh) : ∀ (g : Nat) (D : List St.Wd) (to : List Nat) (kn : List St.Ex), (∀ d ∈ D, d ≠ []) → St.Srt D → kn.length ≤ (St.grp bh g D to kn).2.length ∧ (St.grp bh g D to kn).2.length ≤ kn.length + sz0 D
  | 0, D, to, kn, _, _ => ⟨Nat.le_refl _, by unfold St.grp; simp⟩
  | g + 1, D, to, kn, hD, hs => by
    unfold St.grp
    by_cases h : D = []
    · rw [if_pos h]; simp
    · rw [if_neg h]
      have hs1 := same_pos D h
      have hne : (D.take (St.same D)).map List.tail ≠ [] := by
        intro e
        have := congrArg List.length e
        rw [List.length_map, List.length_take] at this
        have h2 : 0 < D.length := List.length_pos_iff.2 h
        have h3 : ([] : List St.Wd).length = 0 := rfl
        omega
      have h1 := hb _ kn hne (srt_group D hs hD)
      have h2 := grp_little bh hb g (D.drop (St.same D)) (to.set (St.hd (D.headD [])) (bh ((D.take (St.same D)).map List.tail) kn).1) (bh ((D.take (St.same D)).map List.tail) kn).2 (fun d hd => hD d (List.mem_of_mem_drop hd)) (List.Pairwise.sublist (List.drop_sublist _ _) hs)
      have h3 := sz1_tails (D.take (St.same D)) fun d hd => hD d (List.mem_of_mem_take hd)
      have h4 := sz0_split D (St.same D)
      dsimp only
      constructor
      · omega
      · omega
theorem srt_tail {d : St.Wd} {D1 : List St.Wd} (h : St.Srt (d :: D1)) (x : St.Wd) (hx : x ∈ D1) : x ≠ [] := by
  have := (List.pairwise_cons.1 h).1 x hx
  intro e
  rw [e] at this
  cases d with
  | nil => exact this
  | cons a b => exact this
theorem beh_little : ∀ f, Little (St.beh f)
  | 0 => fun D kn _ _ => by unfold St.beh; simp
  | f + 1 => fun D kn hD hs => by
    obtain ⟨d, D1, rfl⟩ : ∃ d D1, D = d :: D1 := by
      cases D with
      | nil => exact absurd rfl hD
      | cons d D1 => exact ⟨d, D1, rfl⟩
    unfold St.beh
    simp only [List.headD_cons, List.tail_cons]
    cases he : d.isEmpty with
    | true =>
      have hd0 : d = [] := by simpa using he
      simp only [cond_true]
      have h1 := grp_little (St.beh f) (beh_little f) D1.length D1 (List.replicate 36 0) kn (srt_tail hs) (List.pairwise_cons.1 hs).2
      have h2 := stOf_le (St.grp (St.beh f) D1.length D1 (List.replicate 36 0) kn).2 ⟨true, (St.grp (St.beh f) D1.length D1 (List.replicate 36 0) kn).1⟩
      have h3 : sz1 (d :: D1) = sz0 D1 + D1.length + 1 := by simp [sz1, sz0, hd0]; omega
      exact ⟨h2.1, by omega, by omega⟩
    | false =>
      have hd0 : d ≠ [] := by intro e; rw [e] at he; simp at he
      simp only [cond_false]
      have h1 := grp_little (St.beh f) (beh_little f) (d :: D1).length (d :: D1) (List.replicate 36 0) kn (fun x hx => by
        rcases List.mem_cons.1 hx with rfl | hx
        · exact hd0
        · exact srt_tail hs x hx) hs
      have h2 := stOf_le (St.grp (St.beh f) (d :: D1).length (d :: D1) (List.replicate 36 0) kn).2 ⟨false, (St.grp (St.beh f) (d :: D1).length (d :: D1) (List.replicate 36 0) kn).1⟩
      have h3 : sz1 (d :: D1) = sz0 (d :: D1) + D1.length + 1 := by simp [sz1]; omega
      exact ⟨h2.1, by omega, by omega⟩
end Go.Proofs.YtnffagpdnklnkaaGreatDoor.Pak
