import Derived.Test.YtnffagpdnklnkaaGreatDoorV43
set_option linter.unusedVariables false
set_option linter.unusedSimpArgs false
set_option maxRecDepth 8000
set_option linter.unusedVariables false
set_option linter.unusedSimpArgs false
set_option maxRecDepth 8000
namespace Go.Proofs.YtnffagpdnklnkaaGreatDoor.Pak
open Go.RowKit Go.Proofs.YtnffagpdnklnkaaGreatDoor Go.Proofs.YtnffagpdnklnkaaGreatDoor.Spl SiftM

theorem run_append_empty {P : Program} {w : World} (base : Nat) (t ty e : TypeId) (i : TypeInfo) (size : Nat) (ht : P.underlying t = some (.slice e)) (hi : P.info? e = some i)
    (v : Value) (n : Nat) (xs : List Value) (hown : w.ownsRow base e size v n xs) (ad : Addr) (c : Nat) :
    (Builtin.append_ #[t, t] ty #[v, .slice (some ad) 0 c]).run P w = .ok v w := by
  rcases hown.2 with ⟨rfl, rfl⟩ | ⟨g, cap, cur, rfl, _, _, hnc, _⟩
  · simp [Builtin.append_, run_underlying ht, sizeOf, typeInfo, hi, Builtin.lenOf, Builtin.firstCells, loadCells, loadCellsFrom, World.cells?]
  · simp [Builtin.append_, run_underlying ht, sizeOf, typeInfo, hi, Builtin.lenOf, Builtin.firstCells, hnc, storeCells, loadCells, loadCellsFrom, World.cells?]
/-- append of a whole list to another. -/
theorem wp_append_row {P : Program} {w : World} {o : Oper} {a : Act} {K : Act → World → Prop} {Q : Exit → Act → World → Prop} (s x : Operand) (t : TypeId)
    (ho : o.op = .call { callee := .builtin .append, args := #[s, x], argTypes := #[t, t] })
    (base : Nat) (e : TypeId) (i : TypeInfo) (z : Value) (bytes : Nat) (ht : P.underlying t = some (.slice e)) (hi : P.info? e = some i) (hz : i.zero = some z)
    (hsize : i.size = 1) (hby : i.bytes = bytes) (hzs : z.cells.size = 1)
    (v : Value) (n : Nat) (xs : List Value) (hs : a.eval s = v) (hown : w.ownsRow base e 1 v n xs)
    (u : Value) (b2 m : Nat) (news : List Value) (hx : a.eval x = u) (hu : w.ownsRow b2 e 1 u m news) (h1 : ∀ y ∈ news, y.oneCell' = true)
    (h63 : n + m ≤ maxLen) (hbytes : (n + m) * bytes ≤ 140737488355328) (hbase : base ≤ w.heap.size)
    (h : ∀ v' w', w'.ownsRow base e 1 v' (n + m) (xs ++ news) → w.grownBy w' v.ownBlock → K (a.put o.dst v') w') : o.wp P a w K Q := by
  by_cases hm : m = 0
  · subst hm
    have hn0 : news = [] := List.length_eq_zero_iff.1 (by have := hu.1; simpa using this)
    subst hn0
    have hrun : (Builtin.append_ #[t, t] o.type #[v, u]).run P w = .ok v w := by
      rcases hu.2 with ⟨rfl, _⟩ | ⟨g, cap, cur, rfl, _⟩
      · exact run_append_owned_none w base t o.type e i 1 ht hi v n xs hown
      · exact run_append_empty base t o.type e i 1 ht hi v n xs hown _ _
    unfold Oper.wp
    simp [execOp, ho, resolve, invoke, builtin, hs, hx, hrun, Result.andThen, Oper.upon]
    exact h v w (by simpa using hown) ⟨rfl, rfl, rfl, Nat.le_refl _, fun _ _ _ => rfl⟩
  · rcases hu.2 with ⟨_, e0⟩ | ⟨g, cap, cur, eu, _⟩
    · exact absurd e0 hm
    · subst eu
      refine wp_append_lies w s x t ho base e i z 1 bytes ht hi hz hsize hby hzs (by omega) v n xs hs hown ⟨g, 0, none⟩ m cap news hx (by have := hu.1; simpa using this) (fun j y hj => ?_) h1 (by omega) h63 hbytes hbase _ rfl (fun g' cap' w' ho' hg' _ _ => h _ w' ho' hg')
      exact hu.cells (g := g) rfl j y hj
section
variable {P : Program} {md : Region.Mode} {ops : Array Oper} {Q : Exit → Act → World → Prop} {S : World → Prop} {z : Nat}
theorem op_Eg {i : Nat} {o : Oper} {K : Act → World → Prop} {a : Act} {w : World} (hi : ops[i]? = some o) (hw : Region.wanted o (yielded ops a.tmps) = true) (h : o.wp P a w K Q) : wpOp P ops Q i K a w := by
  unfold wpOp
  simp only [hi]
  simp only [hw, if_true]
  exact .inl h
theorem anyE_callg {i g : Nat} {o : Oper} {args : Array Value} {f : Nat} {l : Array Bool} {a : Act} {w : World} (hr : Region.ready md ops l = [i]) (hi : ops[i]? = some o) (hw : Region.wanted o (yielded ops a.tmps) = true)
    (hrun : (execOp a.eval o).run P w = .ok (.enter g args) w) {R : Ending → World → Prop} (hc : Calls P g args w R)
    (h : ∀ e w', R e w' → ∃ v, e = .returned v ∧ (i = z ∨ S w') ∧ wpAnyE P md ops Q S z f (l.setIfInBounds i true) (a.put o.dst v) w') : wpAnyE P md ops Q S z (f + 1) l a w := by
  refine anyE_one hr (op_Eg hi hw ?_)
  unfold Oper.wp
  rw [hrun]
  refine Calls.mono hc fun e w' he => ?_
  obtain ⟨v, rfl, h1, h2⟩ := h e w' he
  exact ⟨h1, h2⟩
end
end Go.Proofs.YtnffagpdnklnkaaGreatDoor.Pak

namespace Go.Proofs.YtnffagpdnklnkaaGreatDoor.Pak
open Go.RowKit Go.Proofs.YtnffagpdnklnkaaGreatDoor Go.Proofs.YtnffagpdnklnkaaGreatDoor.Spl SiftM
/- What is told of the segments, cell by cell. -/
theorem dgV_at : ∀ (L : List DSg) (i : Nat) (h : i < L.length) (j : Nat), j < 6 → (dgV L)[i * 6 + j]? = (dgA L[i])[j]?
  | x :: r, 0, h, j, hj => by
    have e : dgV (x :: r) = dgA x ++ dgV r := by simp [dgV]
    rw [e, List.getElem?_append_left (by simp [dgA]; omega)]; simp
  | x :: r, i + 1, h, j, hj => by
    have ih := dgV_at r i (by simpa using h) j hj
    have e : dgV (x :: r) = dgA x ++ dgV r := by simp [dgV]
    rw [e, List.getElem?_append_right (by simp [dgA]; omega)]
    rw [show (i + 1) * 6 + j - (dgA x).length = i * 6 + j by simp [dgA]; omega]
    simpa using ih
theorem seg_cells {w : World} {b g n c : Nat} {L : List DSg} (h : w.ownsRow b 41 6 (.slice (some ⟨g, 0, none⟩) n c) n (dgV L)) (i : Nat) (hi : i < L.length) (p : DSg) (hp : L[i] = p) :
    w.cell? ⟨g, i * 6, none⟩ = some (.int .i64 (p.num : Int)) ∧ w.cell? ⟨g, i * 6 + 1, none⟩ = some (.int .i64 (p.T.length : Int)) ∧ w.cell? ⟨g, i * 6 + 3, none⟩ = some (.int .i64 ((termsOf p.T).length : Int)) ∧ w.cell? ⟨g, i * 6 + 4, none⟩ = some (.int .i64 ((St.refSets (termsOf p.T)).length : Int)) ∧ w.cell? ⟨g, i * 6 + 5, none⟩ = some (.int .i64 ((fileT p.T).length : Int)) := by
  have hc : ∀ j u, j < 6 → (dgA p)[j]? = some u → w.cell? ⟨g, i * 6 + j, none⟩ = some u := fun j u hj hu => by
    have := h.cells (g := g) rfl (i * 6 + j) u (by rw [dgV_at L i hi j hj, hp]; exact hu)
    rwa [Addr.add_lit, Nat.zero_add] at this
  exact ⟨hc 0 _ (by omega) rfl, hc 1 _ (by omega) rfl, hc 3 _ (by omega) rfl, hc 4 _ (by omega) rfl, hc 5 _ (by omega) rfl⟩
/- A list of bytes, to be read. -/
theorem own_vw {w : World} {b : Nat} {v : Value} {l : List UInt8} (h : w.ownsRow b 5 1 v l.length (byV l)) : ∃ a c, v = .slice a l.length c ∧ Vw w w.heap.size a l ∧ l.length ≤ c ∧ c ≤ 9223372036854775807 := by
  rcases h.2 with ⟨rfl, e⟩ | ⟨g, cap, cur, rfl, hb, hg, hnc, hcm, _⟩
  · have e' : l = [] := List.length_eq_zero_iff.1 e
    subst e'
    exact ⟨none, 0, rfl, .inl ⟨rfl, rfl⟩, Nat.le_refl _, by omega⟩
  · refine ⟨some ⟨g, 0, none⟩, cap, rfl, .inr ⟨g, 0, rfl, heap_lt hg, fun j hj => ?_⟩, hnc, by unfold maxLen at hcm; omega⟩
    have := h.cells (g := g) rfl j (.int .u8 (l[j].toNat : Int)) (by simp [byV, hj])
    rwa [Addr.add_lit] at this
/- The files of the segments. -/
theorem TW.xDisk {w : World} {B Wd X n : Nat} {t : TSt} (h : TW w B Wd X n t) : w.cell? ⟨X, 2, none⟩ = some (.pointer (some ⟨t.d, 0, none⟩)) := by
  have h1 := h.ix.blk
  have h2 := h.fv
  simp [World.cell?, h1, pxC, pxA, h2, pt]
theorem TW.ndF {w : World} {B Wd X n : Nat} {t : TSt} (h : TW w B Wd X n t) : (nms t.F).Nodup := by obtain ⟨D, _, _, _, _, h9, _⟩ := h.disk.map; exact h9
theorem file_of {w : World} {B Wd X n k nx : Nat} {t : TSt} (h : TW w B Wd X n t) (hA : absF t.F = dskOf k nx t.s.Ps) {p : PPt} (hp : p ∈ t.s.Ps) : segN p.num ∈ nms t.F ∧ ∃ f ∈ t.F, f.nm = segN p.num ∧ f.bs = fileT p.T := by
  have hin : segN p.num ∈ nms t.F := (names_is hA _).2 (List.mem_cons_of_mem _ (List.mem_map.2 ⟨p, hp, rfl⟩))
  refine ⟨hin, ?_⟩
  obtain ⟨q, hq⟩ := Option.isSome_iff_exists.1 ((absF_is (F := t.F) (segN p.num)).2 hin)
  obtain ⟨f, hf, e1, e2⟩ := absF_some hq
  have := h.dok.files p.abs (List.mem_map.2 ⟨p, hp, rfl⟩) q hq
  rw [e2] at this
  injection this with e3 e4
  exact ⟨f, hf, e1, e3⟩
theorem no_t {k nx : Nat} {F : List Fl} {Ps : List PPt} (hA : absF F = dskOf k nx Ps) : [116] ∉ nms F := fun h => by
  rcases List.mem_cons.1 ((names_is hA _).1 h) with e | e
  · unfold comN at e
    injection e with e _
    exact absurd e (by decide)
  · obtain ⟨u, _, e⟩ := List.mem_map.1 e
    unfold segN at e
    injection e with e _
    exact absurd e (by decide)
/- The docs of the segments. -/
def docsI (Ps : List PPt) (i : Nat) : List Tx := (Ps.take i).flatMap PPt.T
theorem docsI_succ (Ps : List PPt) (i : Nat) (h : i < Ps.length) : docsI Ps (i + 1) = docsI Ps i ++ Ps[i].T := by
  unfold docsI
  rw [take_snocL _ i h, List.flatMap_append]
  simp
theorem live_sub (g : DSg) (x : Tx) (h : x ∈ g.live) : x ∈ g.T := by
  unfold DSg.live at h
  obtain ⟨z, hz, rfl⟩ := List.mem_map.1 h
  exact (List.of_mem_zip (List.mem_filter.1 hz).1).1
theorem docs_all {th : List Bool} {wl : List (List (List UInt8))} {s : PSt} (hk : KOk th wl s.abs.all) (hG : s.G = []) (i : Nat) (hi : th.getD i false = true) : (i, wl.getD i []) ∈ docsI s.Ps s.Ps.length := by
  have h1 : th[i]? = some true := by
    rw [List.getD_eq_getElem?_getD] at hi
    cases h : th[i]? with
    | none => rw [h] at hi; cases hi
    | some b => rw [h] at hi; simp at hi; rw [hi]
  obtain ⟨x, hx, rfl⟩ := List.mem_map.1 (hk.thr i h1)
  have h2 := (hk.ids x hx).2.2
  have hw : wl.getD x.1 [] = x.2 := by rw [List.getD_eq_getElem?_getD, h2]; rfl
  rw [hw]
  unfold docsI
  rw [List.take_length]
  unfold DSt.all at hx
  rcases List.mem_append.1 hx with hx | hx
  · have : s.abs.T = s.G := rfl
    rw [this, hG] at hx; cases hx
  · obtain ⟨g, hg, hxg⟩ := List.mem_flatMap.1 hx
    obtain ⟨p, hp, rfl⟩ := List.mem_map.1 hg
    exact List.mem_flatMap.2 ⟨p, hp, live_sub _ _ hxg⟩
/- The law's world while it looks at the files. -/
def tq (t : TSt) (vs : List Value) (D : List Tx) : TSt := { t with vs := vs, wl := mwl t.th t.wl D }
def LI (t : TSt) (B Wd X n : Nat) (W wr : World) (D : List Tx) (fd : Nat) : Prop := fN t.th t.wl D = fd ∧ Kp [t.wb] W wr ∧ ∃ vs, TW wr B Wd X n (tq t vs D)
theorem LI.start {t : TSt} {B Wd X n : Nat} {W : World} (h : TW W B Wd X n t) : LI t B Wd X n W W [] 0 := by
  refine ⟨fN_nil _ _, Kp.refl _ _, t.vs, ?_⟩
  unfold tq
  rw [mwl_nil _ _ h.lw.wll]
  exact h
theorem LI.kp0 {t : TSt} {B Wd X n fd : Nat} {W wr w' : World} {D : List Tx} (h : LI t B Wd X n W wr D fd) (k : Kp [] wr w') : LI t B Wd X n W w' D fd := by
  obtain ⟨h1, h2, vs, h3⟩ := h
  exact ⟨h1, h2.next (k.mono (by simp)), vs, h3.kp0 k⟩
theorem LI.skip {t : TSt} {B Wd X n fd id : Nat} {W wr : World} {D : List Tx} {ws : List (List UInt8)} (h : LI t B Wd X n W wr D fd) (hid : id < 20) (hno : ¬ (t.th.getD id false = true ∧ ws = (mwl t.th t.wl D).getD id [])) : LI t B Wd X n W wr (D ++ [(id, ws)]) fd := by
  obtain ⟨h1, h2, vs, h3⟩ := h
  obtain ⟨e1, e2⟩ := mark_no hid hno
  refine ⟨e2.trans h1, h2, vs, ?_⟩
  unfold tq
  rw [e1]
  exact h3
theorem LI.reads {t : TSt} {B Wd X n fd : Nat} {W wr : World} {D : List Tx} (h : LI t B Wd X n W wr D fd) :
    wr.cell? ⟨Wd, 0, none⟩ = some (.pointer (some ⟨X, 0, none⟩)) ∧ wr.cell? ⟨Wd, 1, none⟩ = some (.slice (some ⟨t.tb, 0, none⟩) 20 20) ∧ wr.cell? ⟨Wd, 2, none⟩ = some (.slice (some ⟨t.wb, 0, none⟩) 20 20) := by
  obtain ⟨_, _, vs, h3⟩ := h
  obtain ⟨c0, c1, c2, _, _⟩ := h3.lw.cells
  exact ⟨c0, c1, c2⟩
theorem LI.words {t : TSt} {B Wd X n fd id : Nat} {W wr : World} {D : List Tx} (h : LI t B Wd X n W wr D fd) (hid : id < 20) :
    wr.cell? ⟨t.tb, id, none⟩ = some (.bool (t.th.getD id false)) ∧ ∃ v, wr.cell? ⟨t.wb, id, none⟩ = some v ∧ wr.frozen? ⟨t.wb, id, none⟩ = false ∧ wr.ownsRow B 9 1 v ((mwl t.th t.wl D).getD id []).length (strV ((mwl t.th t.wl D).getD id [])) := by
  obtain ⟨_, _, vs, h3⟩ := h
  obtain ⟨b, hb, hc, _⟩ := h3.lw.thAt id hid
  obtain ⟨v, l, hv, hl, hc2, hf⟩ := h3.lw.woAt id hid
  have hrow := h3.lw.each id v l hv hl
  have e : (mwl t.th t.wl D).getD id [] = l := by rw [List.getD_eq_getElem?_getD]; exact congrArg (fun o => Option.getD o []) hl
  rw [e]
  refine ⟨?_, v, hc2, hf, hrow⟩
  have e2 : t.th.getD id false = b := by rw [List.getD_eq_getElem?_getD]; exact congrArg (fun o => Option.getD o false) hb
  rw [e2]; exact hc
theorem LI.mark {t : TSt} {B Wd X n fd id : Nat} {W wr w3 : World} {D : List Tx} {ws : List (List UInt8)} {v : Value} (h : LI t B Wd X n W wr D fd) (hid : id < 20) (hw : ∀ x ∈ ws, isWord x = true) (ht : t.th.getD id false = true) (he : ws = (mwl t.th t.wl D).getD id [])
    (k : Kp [] wr w3) (hv : w3.ownsRow wr.heap.size 9 1 v (fnd :: ws).length (strV (fnd :: ws))) : LI t B Wd X n W (w3.setCell ⟨t.wb, id, none⟩ v) (D ++ [(id, ws)]) (fd + 1) := by
  obtain ⟨h1, h2, vs, h3⟩ := h
  obtain ⟨e1, e2⟩ := mark_yes hid hw ht he
  have h4 := h3.kp0 k
  have ks : Kp [t.wb] w3 (w3.setCell ⟨t.wb, id, none⟩ v) := kp_set _ _ _ _
  have hrow : w3.ownsRow B 9 1 v (fnd :: ws).length (strV (fnd :: ws)) := owns_low hv h3.ix.low
  refine ⟨by rw [e2, h1], (h2.next (k.mono (by simp))).next ks, vs.set id v, ?_⟩
  have h5 := h4.law (y := t.wb) ks (.inr (.inr rfl)) (h4.lw.setWo id v (fnd :: ws) hrow) (fun u hu g hg => by
    rcases List.mem_or_eq_of_mem_set hu with h9 | h9
    · exact h4.vO u h9 g hg
    · subst h9
      intro hx
      have q1 := (hv.lt g hg).1
      have q2 := h3.Olt g hx
      omega)
  unfold tq
  rw [e1]
  exact h5
end Go.Proofs.YtnffagpdnklnkaaGreatDoor.Pak
