import Derived.Test.YtbkepgmgebmceaaGreatDoorU29
import Derived.Laws.AppendOwnNone

set_option linter.unusedVariables false
set_option maxRecDepth 4000
namespace Go.Proofs.YtbkepgmgebmceaaGreatDoor.Pak
open Go.RowKit Go.Proofs.YtbkepgmgebmceaaGreatDoor Go.Proofs.YtbkepgmgebmceaaGreatDoor.Spl SiftM

theorem rs_of_pw : ∀ (xs : List Nat) (least : Nat), xs.Pairwise (· < ·) → (∀ x ∈ xs, least ≤ x) → Rs least xs
  | [], _, _, _ => trivial
  | x :: r, least, h, hl => ⟨hl x (by simp), rs_of_pw r (x + 1) (List.pairwise_cons.1 h).2 (fun y hy => (List.pairwise_cons.1 h).1 y hy)⟩

theorem ids_good : ∀ (D : List Dc) (p : Option Int), (∀ x ∈ D, 0 ≤ x.1 ∧ x.1 ≤ 99999) → D.Pairwise (fun x y => x.1 < y.1) → (∀ x ∈ D, p ≠ some x.1) → idsB p D = true
  | [], p, _, _, _ => rfl
  | x :: r, p, h, hp, hne => by
    have h1 := h x (by simp)
    have h2 := hne x (by simp)
    rw [idsB, if_neg (by
      rintro (h' | h' | h')
      · omega
      · omega
      · exact h2 h')]
    refine ids_good r (some x.1) (fun y hy => h y (by simp [hy])) (List.pairwise_cons.1 hp).2 ?_
    intro y hy e
    have := (List.pairwise_cons.1 hp).1 y hy
    have := Option.some.inj e
    omega

def Sorted (N : List Nd) : Prop := N.Pairwise fun x y => x.1 < y.1

theorem pw_inj {α : Type} (f : α → Int) (l : List α) (h : l.Pairwise fun x y => f x < f y) : ∀ a ∈ l, ∀ b ∈ l, f a = f b → a = b := by
  intro a ha b hb e
  obtain ⟨i, hi, rfl⟩ := List.getElem_of_mem ha
  obtain ⟨j, hj, rfl⟩ := List.getElem_of_mem hb
  have hp := List.pairwise_iff_getElem.1 h
  by_cases h1 : i < j
  · have := hp i j hi hj h1; omega
  · by_cases h2 : j < i
    · have := hp j i hj hi h2; omega
    · have : i = j := by omega
      subst this; rfl

theorem dcs_sorted (N : List Nd) (h : Sorted N) : (dcs N).Pairwise fun x y => x.1 < y.1 := by
  unfold dcs
  rw [List.pairwise_map]
  exact h.imp (fun hh => by simpa using hh)

theorem sort_unique (N N' : List Nd) (D' : List Dc) (hs : SortOf (dcs N) D') (hp : N'.Perm N) (hsort : Sorted N') : D' = dcs N' := by
  have hpd : D'.Perm (dcs N') := hs.1.trans (by unfold dcs; exact (hp.map _).symm)
  have hlt := dcs_sorted N' hsort
  refine List.Perm.eq_of_pairwise (le := fun x y : Dc => x.1 ≤ y.1) ?_ hs.2 (hlt.imp (fun hh => by omega)) hpd
  intro a b ha hb h1 h2
  exact pw_inj (fun x : Dc => x.1) (dcs N') hlt a (hpd.mem_iff.1 ha) b hb (by omega)

theorem txs_fst (N : List Nd) : (txs N).map Prod.fst = N.map Prod.fst := by simp [txs]

theorem fine_txs (N : List Nd) (hsort : Sorted N) (hn : N.length ≤ 60) (hid : ∀ x ∈ N, x.1 ≤ 99999) (hsz : ∀ x ∈ N, x.2.size ≤ 120) : Fine (txs N) where
  len := by simpa [txs] using hn
  rise := by
    rw [txs_fst]
    refine rs_of_pw _ 0 ?_ (fun _ _ => Nat.zero_le _)
    rw [List.pairwise_map]
    exact hsort
  ids := by
    intro t ht
    obtain ⟨x, hx, rfl⟩ := List.mem_map.1 ht
    exact hid x hx
  few := by
    intro t ht
    obtain ⟨x, hx, rfl⟩ := List.mem_map.1 ht
    exact (sp_few x.2 (hsz x hx)).1
  short := by
    intro t ht
    obtain ⟨x, hx, rfl⟩ := List.mem_map.1 ht
    exact ⟨(sp_few x.2 (hsz x hx)).2.1, (sp_few x.2 (hsz x hx)).2.2.1⟩
  word := by
    intro t ht
    obtain ⟨x, hx, rfl⟩ := List.mem_map.1 ht
    exact (sp_few x.2 (hsz x hx)).2.2.2

theorem dcs_len (N : List Nd) : (dcs N).length = N.length := by simp [dcs]

set_option maxHeartbeats 400000 in
theorem pack_any (B : Nat) (v : Value) (N N' : List Nd) (w : World) (h : w.ownsRow B 246 2 v (dcs N).length (docV (dcs N))) (hn : N.length ≤ 60) (hp : N'.Perm N) (hsort : Sorted N') (hid : ∀ x ∈ N, x.1 ≤ 99999) (hsz : ∀ x ∈ N, x.2.size ≤ 120) :
    Calls Tryz.prog 73 #[v] w fun e w' => ∃ v', e = .returned (.tuple #[v', .int .i64 0]) ∧ w'.ownsRow w.heap.size 5 1 v' ((bodyT (txs N')).length + 4) (byV (fileT (txs N'))) ∧ Kp [] w w' := by
  have hl := dcs_len N
  have hl' := hp.length_eq
  have hby := byId_any B v (dcs N) w h (by omega)
  rw [hl] at h hby
  obtain ⟨av, cv, rfl, hav⟩ := owns_forms h
  have hid' : ∀ x ∈ N', x.1 ≤ 99999 := fun x hx => hid x (hp.mem_iff.1 hx)
  have hsz' : ∀ x ∈ N', x.2.size ≤ 120 := fun x hx => hsz x (hp.mem_iff.1 hx)
  have hfine := fine_txs N' hsort (by omega) hid' hsz'
  have hgood : idsB none (dcs N') = true := ids_good (dcs N') none (by
    intro x hx
    obtain ⟨y, hy, rfl⟩ := List.mem_map.1 hx
    have := hid' y hy
    simp; omega) (dcs_sorted N' hsort) (by simp)
  have hlong : longB N' = false := by
    unfold longB
    rw [List.any_eq_false]
    intro x hx
    have := hsz' x hx
    simp; omega
  have huni := fun D' hs => sort_unique N N' D' hs hp hsort
  obtain ⟨n, hnE⟩ : ∃ n, N.length = n := ⟨_, rfl⟩
  rw [hnE] at hby hn hl' hav
  rw [hnE]
  have HBY := hide hby
  have HF := hide hfine
  have HG := hide hgood
  have HLo := hide hlong
  have HU := hide huni
  have HI := hide hid'
  have Hl' := hide hl'
  clear h hby hfine hgood hlong huni hid hsz hid' hsz' hl hl' hp hsort hnE
  go_enter Tryz.func73, Tryz.ntmps73
  go_wp2_with fail
  refine HBY.out.mono ?_
  rintro e w1 ⟨v1, D', rfl, ho1, hso, k1⟩
  have eD := HU.out D' hso
  subst eD
  obtain ⟨a1, c1, rfl, _⟩ := owns_forms ho1
  have hids := ids_any w.heap.size (.slice a1 n c1) (dcs N') w1 (by rw [dcs_len, Hl'.out]; exact ho1) (by rw [dcs_len, Hl'.out]; omega)
  rw [HG.out] at hids
  have HO1 := hide ho1
  have HID := hide hids
  have hz1 := k1.size
  clear ho1 hso hids HBY HU
  go_wp2_with fail
  refine HID.out.mono ?_
  rintro e w2 ⟨rfl, k2⟩
  have hz2 := k2.size
  have ho2 := k2.owns HO1.out (by simp)
  have htx := textsOf_any w.heap.size (.slice a1 n c1) N' w2 (by rw [dcs_len, Hl'.out]; exact ho2) (by rw [Hl'.out]; omega) HI.out
  rw [HLo.out] at htx
  have HTX := hide htx
  clear ho2 htx HID HO1
  go_wp2_with fail
  refine HTX.out.mono ?_
  rintro e w3 ⟨h3, k3⟩
  have hz3 := k3.size
  rcases h3 with ⟨hb, _⟩ | ⟨_, v3, vs, rfl, ht3⟩
  · simp at hb
  obtain ⟨a3, c3, rfl, _⟩ := owns_forms ht3.row
  have hwr := write_any w2.heap.size _ (txs N') vs w3 ht3 HF.out
  have HWR := hide hwr
  clear ht3 hwr HTX
  go_wp2_with fail
  refine HWR.out.mono ?_
  rintro e w4 ⟨v4, rfl, ho4, k4⟩
  obtain ⟨a4, c4, rfl, _⟩ := owns_forms ho4
  have HO4 := hide (owns_low ho4 (show w.heap.size ≤ w3.heap.size by omega))
  have k04 : Kp [] w w4 := ((k1.next k2).next k3).next k4
  clear ho4 HWR k1 k2 k3 k4
  go_wp2_with fail
  go_ret2
  exact ⟨_, rfl, HO4.out, k04⟩
end Go.Proofs.YtbkepgmgebmceaaGreatDoor.Pak

set_option linter.unusedVariables false
set_option maxRecDepth 4000
namespace Go.Proofs.YtbkepgmgebmceaaGreatDoor.Pak
open Go.RowKit Go.Proofs.YtbkepgmgebmceaaGreatDoor Go.Proofs.YtbkepgmgebmceaaGreatDoor.Spl SiftM

def ins {α : Type} (l : List α) (a : Nat) (x : α) : List α := l.take a ++ x :: l.drop a
theorem ins_len {α : Type} (l : List α) (a : Nat) (x : α) (h : a ≤ l.length) : (ins l a x).length = l.length + 1 := by
  unfold ins; simp; omega
theorem ins_get {α : Type} (l : List α) (a : Nat) (x : α) (h : a ≤ l.length) (i : Nat) : (ins l a x)[i]? = if i < a then l[i]? else if i = a then some x else l[i - 1]? := by
  unfold ins
  rw [List.getElem?_append]
  have hl : (l.take a).length = a := by simp; omega
  rw [hl]
  by_cases h1 : i < a
  · rw [if_pos h1, if_pos h1, List.getElem?_take, if_pos h1]
  · rw [if_neg h1, if_neg h1]
    by_cases h2 : i = a
    · subst h2; simp
    · rw [if_neg h2]
      obtain ⟨d, hd⟩ : ∃ d, i - a = d + 1 := ⟨i - a - 1, by omega⟩
      rw [hd, List.getElem?_cons_succ, List.getElem?_drop]
      congr 1; omega
theorem ins_lo {α : Type} (l : List α) (a : Nat) (x : α) (h : a ≤ l.length) (i : Nat) (hi : i < (ins l a x).length) (h1 : i < a) : (ins l a x)[i] = l[i]'(by omega) := by
  have := ins_get l a x h i
  rw [if_pos h1, List.getElem?_eq_getElem hi, List.getElem?_eq_getElem (by omega)] at this
  exact Option.some.inj this
theorem ins_at {α : Type} (l : List α) (a : Nat) (x : α) (h : a ≤ l.length) (hi : a < (ins l a x).length) : (ins l a x)[a] = x := by
  have := ins_get l a x h a
  rw [if_neg (by omega), if_pos rfl, List.getElem?_eq_getElem hi] at this
  exact Option.some.inj this
theorem ins_hi {α : Type} (l : List α) (a : Nat) (x : α) (h : a ≤ l.length) (i : Nat) (hi : i < (ins l a x).length) (h1 : a < i) : (ins l a x)[i] = l[i - 1]'(by rw [ins_len l a x h] at hi; omega) := by
  have := ins_get l a x h i
  rw [if_neg (by omega), if_neg (by omega), List.getElem?_eq_getElem hi, List.getElem?_eq_getElem (by rw [ins_len l a x h] at hi; omega)] at this
  exact Option.some.inj this
theorem ins_map {α β : Type} (f : α → β) (l : List α) (a : Nat) (x : α) : (ins l a x).map f = ins (l.map f) a (f x) := by
  simp [ins, List.map_take, List.map_drop]
theorem ins_zip {α β : Type} (l : List α) (m : List β) (a : Nat) (x : α) (y : β) (h : l.length = m.length) : (ins l a x).zip (ins m a y) = ins (l.zip m) a (x, y) := by
  unfold ins
  rw [List.zip_append (by simp; omega)]
  simp [List.zip, List.take_zipWith, List.drop_zipWith]
theorem sorted_ins (N : List Nd) (a : Nat) (x : Nd) (ha : a ≤ N.length) (h : Sorted N) (h1 : ∀ j (hj : j < N.length), j < a → N[j].1 < x.1) (h2 : ∀ (hj : a < N.length), x.1 < N[a].1) : Sorted (ins N a x) := by
  have hp := List.pairwise_iff_getElem.1 h
  have h2' : ∀ j (hj : j < N.length), a ≤ j → x.1 < N[j].1 := by
    intro j hj haj
    have h3 := h2 (by omega)
    by_cases e : j = a
    · subst e; exact h3
    · have := hp a j (by omega) hj (by omega); omega
  unfold Sorted
  rw [List.pairwise_iff_getElem]
  intro i j hi hj hij
  have hj' : j < N.length + 1 := by rw [ins_len _ _ _ ha] at hj; exact hj
  by_cases j3 : j < a
  · rw [ins_lo N a x ha j hj j3, ins_lo N a x ha i hi (by omega)]
    exact hp i j (by omega) (by omega) hij
  · by_cases j4 : j = a
    · subst j4
      rw [ins_at N j x ha hj, ins_lo N j x ha i hi hij]
      exact h1 i (by omega) hij
    · rw [ins_hi N a x ha j hj (by omega)]
      by_cases i3 : i < a
      · rw [ins_lo N a x ha i hi i3]
        exact hp i (j - 1) (by omega) (by omega) (by omega)
      · by_cases i4 : i = a
        · subst i4
          rw [ins_at N i x ha hi]
          exact h2' (j - 1) (by omega) (by omega)
        · rw [ins_hi N a x ha i hi (by omega)]
          exact hp (i - 1) (j - 1) (by omega) (by omega) (by omega)

theorem perm_ins (N N' : List Nd) (a : Nat) (x : Nd) (h : N'.Perm N) : (ins N' a x).Perm (N ++ [x]) := by
  have h1 : (ins N' a x).Perm (x :: N') := by
    unfold ins
    refine List.perm_middle.trans ?_
    rw [List.take_append_drop]
  exact h1.trans ((h.cons x).trans (List.perm_append_singleton x N).symm)

theorem txs_ins (N : List Nd) (a : Nat) (x : Nd) : txs (ins N a x) = ins (txs N) a (x.1, wordsB x.2) := by
  unfold txs
  rw [ins_map]

/-- append of all of another list, wherever it begins. -/
theorem wpList_append_opt {P : Program} (w : World) {ops : Array Oper} {rest : List Oper} {o : Oper} {a : Act} {Q : Exit → Act → World → Prop} (hgd : o.guard = none) (s x : Operand) (t : TypeId)
    (ho : o.op = .call { callee := .builtin .append, args := #[s, x], argTypes := #[t, t] })
    (base : Nat) (e : TypeId) (i : TypeInfo) (z : Value) (size bytes : Nat) (ht : P.underlying t = some (.slice e)) (hi : P.info? e = some i) (hz : i.zero = some z)
    (hsize : i.size = size) (hby : i.bytes = bytes) (hzs : z.cells.size = size) (hsz : 0 < size)
    (v : Value) (n : Nat) (xs : List Value) (hs : a.eval s = v) (hown : w.ownsRow base e size v n xs)
    (ad : Option Addr) (m c : Nat) (news : List Value) (hx : a.eval x = .slice ad m c) (hnone : ad = none → m = 0 ∧ c = 0) (hl : news.length = m * size)
    (hsrc : ∀ adr, ad = some adr → ∀ j u, news[j]? = some u → w.cell? (adr.add j) = some u) (h1 : ∀ u ∈ news, u.oneCell' = true)
    (h63 : n + m ≤ maxLen) (hbytes : (n + m) * bytes ≤ 140737488355328) (hbase : base ≤ w.heap.size)
    (h : ∀ v' w', w'.ownsRow base e size v' (n + m) (xs ++ news) → w.grownBy w' v.ownBlock → (v'.ownBlock = v.ownBlock ∨ v'.ownBlock = some w.heap.size) → wpList P ops Q rest (a.put o.dst v') w') :
    wpList P ops Q (o :: rest) a w := by
  cases ad with
  | none =>
    obtain ⟨rfl, rfl⟩ := hnone rfl
    have hn : news = [] := List.eq_nil_of_length_eq_zero (by simpa using hl)
    subst hn
    refine wpList_append_own_none hgd s x t ho base e i size ht hi v n xs hs hown hx ?_
    exact h v w (by simpa using hown) (World.grownBy.refl _ _) (.inl rfl)
  | some adr =>
    refine wpList_append_own_at w hgd s x t ho base e i z size bytes ht hi hz hsize hby hzs hsz v n xs hs hown adr m c news hx hl (hsrc adr rfl) h1 h63 hbytes hbase ?_
    intro v' w' h1 h2 _ h3
    exact h v' w' h1 h2 h3

theorem add_zero' (g k : Nat) : (⟨g, 0, none⟩ : Addr).add k = ⟨g, k, none⟩ := by unfold Addr.add; split <;> simp_all


theorem slice_loG (ty e s : Nat) (hu : Tryz.prog.underlying ty = some (.slice e)) (hs : ∀ w, (sizeOf e).run Tryz.prog w = .ok s w) (at' : Option Addr) (n ct k : Nat) (w : World) (h : k ≤ n) (hc : n ≤ ct) (hform : ∀ x, at' = some x → ∃ g, x = ⟨g, 0, none⟩) :
    (Instr.slice ty (.slice at' n ct) none (some (.int .i64 (k : Int))) none).run Tryz.prog w = .ok (.slice at' k ct) w := by
  have he : Tryz.prog.elem ty = e := by simp [Program.elem, hu]
  have ht' : Tryz.prog.underlying ty = some (.slice (Tryz.prog.elem ty)) := by rw [he]; exact hu
  rw [run_slice_h w ty _ _ _ ht' .i64 _ (by omega) (by omega), he, hs]
  simp only [Result.andThen, sliced, Nat.zero_mul, Int.toNat_natCast, Nat.sub_zero]
  cases at' with
  | none => simp
  | some x =>
    obtain ⟨g, rfl⟩ := hform x rfl
    simp [add_zero']

theorem slice_hiG (ty e s : Nat) (hu : Tryz.prog.underlying ty = some (.slice e)) (hs : ∀ w, (sizeOf e).run Tryz.prog w = .ok s w) (at' : Option Addr) (n ct k : Nat) (h : k ≤ n) (hc : n ≤ ct) (hnone : at' = none → n = 0 ∧ ct = 0) (hform : ∀ x, at' = some x → ∃ g, x = ⟨g, 0, none⟩) :
    ∃ ad, (∀ w, (Instr.slice ty (.slice at' n ct) (some (.int .i64 (k : Int))) none none).run Tryz.prog w = .ok (.slice ad (n - k) (ct - k)) w) ∧ (ad = none → n - k = 0 ∧ ct - k = 0) ∧ ∀ adr, ad = some adr → 0 < n - k → ∃ g, at' = some ⟨g, 0, none⟩ ∧ adr = ⟨g, k * s, none⟩ := by
  have he : Tryz.prog.elem ty = e := by simp [Program.elem, hu]
  have ht' : Tryz.prog.underlying ty = some (.slice (Tryz.prog.elem ty)) := by rw [he]; exact hu
  refine ⟨if ct = k then at' else at'.map (·.add (k * s)), ?_, ?_, ?_⟩
  · intro w
    rw [run_slice_l w ty _ _ _ ht' .i64 _ (by omega) (by omega), he, hs]
    simp only [Result.andThen, sliced, Int.toNat_natCast]
  · intro e
    cases at' with
    | none => obtain ⟨rfl, rfl⟩ := hnone rfl; omega
    | some x => split at e <;> simp at e
  · intro adr e hpos
    rw [if_neg (by omega)] at e
    cases at' with
    | none => simp at e
    | some x =>
      obtain ⟨g, rfl⟩ := hform x rfl
      simp only [Option.map_some, Option.some.injEq] at e
      exact ⟨g, rfl, by rw [← e, add_zero']⟩

/-- What the two halves of an own list are, at whatever place it is cut. -/
theorem halves {w : World} {base e size n ct : Nat} {at' : Option Addr} {xs : List Value} (h : w.ownsRow base e size (.slice at' n ct) n xs) :
    (∀ x, at' = some x → ∃ g, x = ⟨g, 0, none⟩) ∧ (at' = none → n = 0 ∧ ct = 0) ∧ n ≤ ct ∧ (∀ g, at' = some ⟨g, 0, none⟩ → ∀ j u, xs[j]? = some u → w.cell? ⟨g, j, none⟩ = some u) := by
  refine ⟨?_, ?_, ?_, ?_⟩
  · intro x hx
    rcases h.2 with ⟨e1, _⟩ | ⟨g, cp, cur, e1, _⟩
    · cases e1; simp at hx
    · cases e1; exact ⟨g, (Option.some.inj hx).symm⟩
  · intro hx
    rcases h.2 with ⟨e1, e2⟩ | ⟨g, cp, cur, e1, _⟩
    · cases e1; exact ⟨e2, rfl⟩
    · cases e1; simp at hx
  · rcases h.2 with ⟨e1, e2⟩ | ⟨g, cp, cur, e1, e2⟩
    · cases e1; omega
    · cases e1; exact e2.2.2.1
  · intro g hg j u hu
    have := h.cells (g := g) (by rw [hg]; rfl) j u hu
    rwa [add_zero'] at this
end Go.Proofs.YtbkepgmgebmceaaGreatDoor.Pak

set_option linter.unusedVariables false
set_option maxRecDepth 4000
namespace Go.Proofs.YtbkepgmgebmceaaGreatDoor.Pak
open Go.RowKit Go.Proofs.YtbkepgmgebmceaaGreatDoor Go.Proofs.YtbkepgmgebmceaaGreatDoor.Spl SiftM

/- What is read was written so. -/
theorem small_nil (f i m : Nat) : smallG (f + 1) i m (some []) = (m + 0 * 128 ^ i, none) := by
  show (if (0 : UInt8).toNat < 128 then (m + (0 : UInt8).toNat * 128 ^ i, if (0 : UInt8) = 0 ∧ 0 < i then none else none) else _) = _
  rw [if_pos (by decide)]
  simp
theorem small_none (f i m : Nat) : smallG (f + 1) i m none = (m + 0 * 128 ^ i, none) := by
  show (if (0 : UInt8).toNat < 128 then (m + (0 : UInt8).toNat * 128 ^ i, if (0 : UInt8) = 0 ∧ 0 < i then none else none) else _) = _
  rw [if_pos (by decide)]
  simp
theorem small_zero (f i m : Nat) (r : List UInt8) (hi : 0 < i) : smallG (f + 1) i m (some (0 :: r)) = (m + 0 * 128 ^ i, none) := by
  show (if (0 : UInt8).toNat < 128 then (m + (0 : UInt8).toNat * 128 ^ i, if (0 : UInt8) = 0 ∧ 0 < i then none else some r) else _) = _
  rw [if_pos (by decide), if_pos ⟨rfl, hi⟩]
  simp

theorem small_inv : ∀ (f i m n : Nat) (l r : List UInt8), smallG (f + 1) i m (some l) = (n, some r) → ∃ k, n = m + k * 128 ^ i ∧ l = numG f k ++ r ∧ k < 128 ^ (f + 1) ∧ (i = 0 ∨ 0 < k)
  | f, i, m, n, [], r, h => by rw [small_nil] at h; simp at h
  | f, i, m, n, c :: t, r, h => by
    by_cases hc : c.toNat < 128
    · by_cases hz : c = 0 ∧ 0 < i
      · obtain ⟨rfl, hi⟩ := hz
        rw [small_zero _ _ _ _ hi] at h; simp at h
      · rw [small_low f i m c t hc hz] at h
        simp only [Prod.mk.injEq, Option.some.injEq] at h
        obtain ⟨h1, rfl⟩ := h
        refine ⟨c.toNat, h1.symm, ?_, ?_, ?_⟩
        · rw [numG_low _ _ hc]
          simp
        · exact Nat.lt_of_lt_of_le hc (by rw [Nat.pow_succ]; exact Nat.le_mul_of_pos_left _ (Nat.pow_pos (by omega)))
        · by_cases hi : i = 0
          · exact .inl hi
          · right
            have : c ≠ 0 := fun e => hz ⟨e, by omega⟩
            have h2 : c.toNat ≠ 0 := fun e => this (UInt8.toNat_inj.1 (by simpa using e))
            omega
    · rw [small_high f i m c t hc] at h
      cases f with
      | zero => simp [smallG] at h
      | succ f =>
        obtain ⟨k, h1, h2, h3, h4⟩ := small_inv f (i + 1) _ n t r h
        have hk : 0 < k := by omega
        have hcl : c.toNat < 256 := c.toNat_lt
        refine ⟨(c.toNat - 128) + 128 * k, ?_, ?_, ?_, .inr (by omega)⟩
        · rw [h1, Nat.add_assoc]
          congr 1
          rw [Nat.add_mul, Nat.pow_succ]
          congr 1
          rw [Nat.mul_comm 128 k, Nat.mul_assoc, Nat.mul_comm (128 ^ i) 128]
        · rw [numG, if_neg (by omega)]
          have e1 : ((c.toNat - 128) + 128 * k) % 128 + 128 = c.toNat := by omega
          have e2 : ((c.toNat - 128) + 128 * k) / 128 = k := by omega
          rw [e1, e2, List.cons_append, ← h2]
          simp
        · rw [Nat.pow_succ]; omega

theorem numF_none (lo hi : Int) : numF none lo hi = (0, none) := by
  unfold numF
  rw [small_none]
  rw [if_pos (.inl rfl)]

theorem num_inv (st : Option (List UInt8)) (lo hi : Int) (n : Nat) (r : List UInt8) (h : numF st lo hi = (n, some r)) : st = some (numB n ++ r) ∧ lo ≤ n ∧ (n : Int) ≤ hi ∧ n < 268435456 := by
  cases st with
  | none => rw [numF_none] at h; simp at h
  | some l =>
    unfold numF at h
    split at h
    · simp at h
    · rename_i hc
      rw [not_or, not_or] at hc
      rw [h] at hc
      obtain ⟨k, h1, h2, h3, _⟩ := small_inv 3 0 0 n l r h
      have e : n = k := by rw [h1]; simp
      subst e
      refine ⟨by rw [h2]; rfl, by have := hc.2.1; simp only at this; omega, by have := hc.2.2; simp only at this; omega, by simpa using h3⟩

theorem riseN_none (most : Int) : ∀ k, (riseN most none k).2.2 = none
  | 0 => rfl
  | k + 1 => by simp only [riseN]; rw [riseN_none most k, numF_none]

theorem rise_inv (most : Int) (l : List UInt8) : ∀ (k : Nat) (r : List UInt8), (riseN most (some l) k).2.2 = some r →
    l = riseB 0 (riseN most (some l) k).1 ++ r ∧ Rs 0 (riseN most (some l) k).1 ∧ (∀ x ∈ (riseN most (some l) k).1, (x : Int) ≤ most ∧ x < (riseN most (some l) k).2.1) ∧ (riseN most (some l) k).2.1 = lstAt (riseN most (some l) k).1 k
  | 0, r, h => by
    simp only [riseN] at h
    have := Option.some.inj h
    subst this
    simp [riseN, riseB, Rs, lstAt]
  | k + 1, r, h => by
    have hl := riseN_len most (some l) k
    simp only [riseN] at h ⊢
    generalize hs : riseN most (some l) k = s at *
    obtain ⟨xs, least, st⟩ := s
    simp only at h hl ⊢
    generalize hn : numF st 0 (most - least) = q at *
    obtain ⟨n, st'⟩ := q
    simp only at h ⊢
    subst h
    obtain ⟨e1, e2, e3, e4⟩ := num_inv _ _ _ _ _ hn
    subst e1
    have ih := rise_inv most l k (numB n ++ r) (by rw [hs])
    rw [hs] at ih
    simp only at ih
    obtain ⟨i1, i2, i3, i4⟩ := ih
    have hk : k < (xs ++ [least + n]).length := by simp; omega
    have hget : (xs ++ [least + n])[k] = least + n := by
      rw [List.getElem_append_right (by omega)]; simp
    have hsp := rise_split (xs ++ [least + n]) 0 k hk
    have ht1 : (xs ++ [least + n]).take (k + 1) = xs ++ [least + n] := List.take_of_length_le (by simp; omega)
    have ht2 : (xs ++ [least + n]).take k = xs := by rw [← hl]; simp
    have hlst : (if k = 0 then 0 else (xs ++ [least + n]).getD (k - 1) 0 + 1) = least := by
      rw [i4]; unfold lstAt
      by_cases h0 : k = 0
      · simp [h0]
      · rw [if_neg h0, if_neg h0]
        congr 1
        rw [List.getD_eq_getElem?_getD, List.getD_eq_getElem?_getD, List.getElem?_append_left (by omega)]
    rw [ht1, ht2, hget, hlst, Nat.add_sub_cancel_left] at hsp
    refine ⟨?_, ?_, ?_, ?_⟩
    · rw [hsp, List.append_assoc]; exact i1
    · exact rs_snoc xs 0 _ i2 (Nat.zero_le _) (fun x hx => by have := (i3 x hx).2; omega)
    · intro x hx
      rcases List.mem_append.1 hx with hx | hx
      · have := i3 x hx
        exact ⟨this.1, by omega⟩
      · simp at hx; subst hx
        exact ⟨by omega, by omega⟩
    · unfold lstAt
      rw [if_neg (by omega), Nat.add_sub_cancel, getD_at _ _ hk, hget]

theorem fold_none (tix doc : Nat) : ∀ (ps : List Nat) (c : Nat) (f : Nat → Nat → Option Nat), (ps.foldl (plStep tix doc) (c, f, none)).2.2 = none
  | [], c, f => rfl
  | p :: r, c, f => by
    rw [List.foldl_cons]
    have e : plStep tix doc (c, f, none) p = (if (f doc p).isSome then c else c + 1, putAt f doc p tix, none) := by simp [plStep]
    rw [e]; exact fold_none tix doc r _ _

theorem fold_inv (tix doc : Nat) : ∀ (ps : List Nat) (c : Nat) (f : Nat → Nat → Option Nat) (st : Option (List UInt8)) (r : List UInt8), ps.Nodup → (ps.foldl (plStep tix doc) (c, f, st)).2.2 = some r → st = some r ∧ ∀ p ∈ ps, f doc p = none
  | [], c, f, st, r, _, h => ⟨h, by simp⟩
  | p :: ps, c, f, st, r, hn, h => by
    rw [List.foldl_cons] at h
    have hnr := List.nodup_cons.1 hn
    by_cases hs : (f doc p).isSome = true
    · have e : plStep tix doc (c, f, st) p = (c, putAt f doc p tix, none) := by simp [plStep, hs]
      rw [e, fold_none] at h
      simp at h
    · have hf : f doc p = none := by simpa using hs
      have e : plStep tix doc (c, f, st) p = (c + 1, putAt f doc p tix, st) := by simp [plStep, hf]
      rw [e] at h
      obtain ⟨h1, h2⟩ := fold_inv tix doc ps _ _ _ _ hnr.2 h
      refine ⟨h1, fun q hq => ?_⟩
      rcases List.mem_cons.1 hq with rfl | hq
      · exact hf
      · have := h2 q hq
        have hne : q ≠ p := fun e => hnr.1 (e ▸ hq)
        simpa [putAt, hne] using this

theorem places_inv (tix doc c : Nat) (f : Nat → Nat → Option Nat) (st : Option (List UInt8)) (r : List UInt8) (h : (placesF tix doc c f st).2.2 = some r) :
    ∃ ps : List Nat, st = some (numB ps.length ++ (riseB 0 ps ++ r)) ∧ 1 ≤ ps.length ∧ ps.length ≤ 60 ∧ Rs 0 ps ∧ (∀ p ∈ ps, p ≤ 59) ∧ (∀ p ∈ ps, f doc p = none) ∧ placesF tix doc c f st = (c + ps.length, putAll f doc ps tix, some r) := by
  have h0 := h
  unfold placesF at h
  generalize hn : numF st 1 60 = q at *
  obtain ⟨n, st1⟩ := q
  simp only at h
  cases st1 with
  | none =>
    rw [riseN_none, fold_none] at h
    simp at h
  | some l =>
    obtain ⟨e1, e2, e3, e4⟩ := num_inv _ _ _ _ _ hn
    cases hr : (riseN 59 (some l) n).2.2 with
    | none => rw [hr, fold_none] at h; simp at h
    | some r' =>
      have hi := rise_inv 59 l n r' hr
      have hl := riseN_len 59 (some l) n
      generalize (riseN 59 (some l) n).1 = ps at *
      generalize (riseN 59 (some l) n).2.1 = least at *
      rw [hr] at h
      obtain ⟨i1, i2, i3, i4⟩ := hi
      obtain ⟨h1, h2⟩ := fold_inv tix doc ps c f (some r') r (rs_nodup ps 0 i2) h
      have e := Option.some.inj h1
      subst e
      have hst : st = some (numB ps.length ++ (riseB 0 ps ++ r')) := by rw [e1, i1, hl]
      refine ⟨ps, hst, by omega, by omega, i2, fun p hp => by have := (i3 p hp).1; omega, h2, ?_⟩
      rw [hst]
      exact places_places tix doc c f ps r' (by omega) (by omega) i2 (fun p hp => by have := (i3 p hp).1; omega) h2

theorem doc_inv (tix N : Nat) (hN : N ≤ 60) : ∀ (k least c : Nat) (f : Nat → Nat → Option Nat) (st : Option (List UInt8)) (r : List UInt8), (docN tix N (least, c, f, st) k).2.2.2 = some r →
    ∃ P : List Po, P.length = k ∧ st = some (entB least P ++ r) ∧ OkP N least P ∧ (∀ x ∈ P, ∀ p ∈ x.2, f x.1 p = none) ∧ (docN tix N (least, c, f, st) k).2 = (c + cntP P, putP tix P f, some r)
  | 0, least, c, f, st, r, h => by
    have h' : st = some r := h
    subst h'
    exact ⟨[], rfl, rfl, trivial, by simp, rfl⟩
  | k + 1, least, c, f, st, r, h => by
    rw [docN_shift] at h
    generalize hn : numF st 0 ((N : Int) - 1 - least) = q at *
    obtain ⟨n, st1⟩ := q
    have hstep : docStep tix N (least, c, f, st) = (least + n + 1, placesF tix (least + n) c f st1) := by
      unfold docStep
      simp only [hn]
    rw [hstep] at h
    generalize hp : placesF tix (least + n) c f st1 = s at *
    obtain ⟨c1, f1, st2⟩ := s
    obtain ⟨P, j1, j2, j3, j4, j5⟩ := doc_inv tix N hN k (least + n + 1) c1 f1 st2 r h
    obtain ⟨ps, k1, k2, k3, k4, k5, k6, k7⟩ := places_inv tix (least + n) c f st1 (entB (least + n + 1) P ++ r) (by rw [hp]; exact j2)
    rw [hp] at k7
    simp only [Prod.mk.injEq] at k7
    obtain ⟨rfl, rfl, _⟩ := k7
    subst k1
    obtain ⟨e1, e2, e3, e4⟩ := num_inv _ _ _ _ _ hn
    have hok : OkP N least ((least + n, ps) :: P) := ⟨by simp, by simp only; omega, k2, k3, k4, k5, j3⟩
    have hfr : ∀ x ∈ (least + n, ps) :: P, ∀ p ∈ x.2, f x.1 p = none := by
      intro x hx p hp'
      rcases List.mem_cons.1 hx with rfl | hx
      · exact k6 p hp'
      · have := j4 x hx p hp'
        have hge := (okP_ge N P _ j3 x hx).1
        unfold putAll at this
        rw [if_neg (by omega)] at this
        exact this
    have hst : st = some (entB least ((least + n, ps) :: P) ++ r) := by
      rw [e1]
      simp only [entB, List.append_assoc, Nat.add_sub_cancel_left]
    refine ⟨(least + n, ps) :: P, by simp [j1], hst, hok, hfr, ?_⟩
    have hd := doc_docs tix N hN ((least + n, ps) :: P) least c f r hok hfr
    rw [hst, ← hd]
    simp [j1]

theorem text_inv (st : Option (List UInt8)) (n : Nat) (r : List UInt8) (h : (textF st n).2 = some r) : st = some ((textF st n).1 ++ r) ∧ (textF st n).1.length = n := by
  cases st with
  | none => simp [textF] at h
  | some l =>
    unfold textF at h ⊢
    simp only at h ⊢
    by_cases hn : l.length < n
    · rw [if_pos hn] at h; simp at h
    · rw [if_neg hn] at h ⊢
      have e := Option.some.inj h
      subst e
      simp; omega

theorem term_inv (N : Nat) (hN : N ≤ 60) (ts : List (List UInt8)) (c : Nat) (f : Nat → Nat → Option Nat) (st : Option (List UInt8)) (r : List UInt8) (h : (termF N (ts, c, f, st)).2.2.2 = some r) :
    ∃ (t : List UInt8) (P : List Po), st = some (termB t P ++ r) ∧ isWord t = true ∧ isNextF ts t = true ∧ OkP N 0 P ∧ 1 ≤ P.length ∧ (∀ x ∈ P, ∀ p ∈ x.2, f x.1 p = none) ∧ termF N (ts, c, f, st) = (ts ++ [t], c + cntP P, putP ts.length P f, some r) := by
  have h0 := h
  unfold termF at h
  simp only at h
  generalize hq : numF (stTerm ts st) 1 N = q at *
  obtain ⟨m, st1⟩ := q
  simp only at h
  obtain ⟨P, j1, j2, j3, j4, j5⟩ := doc_inv ts.length N hN m 0 c f st1 r h
  subst j2
  obtain ⟨e1, e2, e3, e4⟩ := num_inv _ _ _ _ _ hq
  have hst := e1
  unfold stTerm at hst
  generalize hp : numF st 1 8 = p at *
  obtain ⟨n, st0⟩ := p
  simp only at hst
  split at hst
  · rename_i hc
    simp only [Bool.and_eq_true] at hc
    obtain ⟨t1, t2⟩ := text_inv _ _ _ hst
    generalize (textF st0 n).1 = t at *
    subst t1
    obtain ⟨a1, a2, a3, a4⟩ := num_inv _ _ _ _ _ hp
    have hfin : st = some (termB t P ++ r) := by
      rw [a1]; unfold termB; rw [← t2, ← j1]; simp
    refine ⟨t, P, hfin, hc.1, hc.2, j3, by omega, j4, ?_⟩
    rw [hfin]
    exact term_term N hN ts c f t P r hc.1 hc.2 j3 (by omega) j4
  · simp at hst

abbrev Tp := List UInt8 × List Po
def termsL : List Tp → List UInt8
  | [] => []
  | x :: R => termB x.1 x.2 ++ termsL R
def cntL : List Tp → Nat
  | [] => 0
  | x :: R => cntP x.2 + cntL R
def putL : Nat → List Tp → (Nat → Nat → Option Nat) → Nat → Nat → Option Nat
  | _, [], f => f
  | k, x :: R, f => putL (k + 1) R (putP k x.2 f)
def GoodR (N : Nat) : List (List UInt8) → (Nat → Nat → Option Nat) → List Tp → Prop
  | _, _, [] => True
  | ts, f, x :: R => isWord x.1 = true ∧ isNextF ts x.1 = true ∧ OkP N 0 x.2 ∧ 1 ≤ x.2.length ∧ (∀ y ∈ x.2, ∀ p ∈ y.2, f y.1 p = none) ∧ GoodR N (ts ++ [x.1]) (putP ts.length x.2 f) R

theorem terms_inv (N : Nat) (hN : N ≤ 60) : ∀ (k : Nat) (ts : List (List UInt8)) (c : Nat) (f : Nat → Nat → Option Nat) (st : Option (List UInt8)) (r : List UInt8), (termN N (ts, c, f, st) k).2.2.2 = some r →
    ∃ R : List Tp, R.length = k ∧ st = some (termsL R ++ r) ∧ GoodR N ts f R ∧ termN N (ts, c, f, st) k = (ts ++ R.map Prod.fst, c + cntL R, putL ts.length R f, some r)
  | 0, ts, c, f, st, r, h => by
    have h' : st = some r := h
    subst h'
    exact ⟨[], rfl, rfl, trivial, by simp [termN, cntL, putL]⟩
  | k + 1, ts, c, f, st, r, h => by
    rw [termN_shift] at h
    generalize hs : termF N (ts, c, f, st) = s at *
    obtain ⟨ts1, c1, f1, st1⟩ := s
    obtain ⟨R, j1, j2, j3, j4⟩ := terms_inv N hN k ts1 c1 f1 st1 r h
    obtain ⟨t, P, k1, k2, k3, k4, k5, k6, k7⟩ := term_inv N hN ts c f st (termsL R ++ r) (by rw [hs]; exact j2)
    rw [hs] at k7
    simp only [Prod.mk.injEq] at k7
    obtain ⟨rfl, rfl, rfl, _⟩ := k7
    refine ⟨(t, P) :: R, by simp [j1], by rw [k1]; simp [termsL], ⟨k2, k3, k4, k5, k6, j3⟩, ?_⟩
    rw [termN_shift, hs, j4]
    simp [cntL, putL, Nat.add_assoc]

theorem mark_inv (st : Option (List UInt8)) (r : List UInt8) (h : stMark st = some r) : st = some (83 :: r) := by
  unfold stMark at h
  split at h
  · rename_i hc
    obtain ⟨t1, t2⟩ := text_inv _ _ _ h
    rw [hc] at t1
    exact t1
  · simp at h

/-- A table that is read whole: what was written. -/
theorem table_inv (st : Option (List UInt8)) (h : (tableF st).2.2.2.2 = some []) :
    ∃ (ids : List Nat) (R : List Tp), st = some (83 :: (numB ids.length ++ (riseB 0 ids ++ (numB R.length ++ termsL R)))) ∧ ids.length ≤ 60 ∧ R.length ≤ 3600 ∧ Rs 0 ids ∧ (∀ x ∈ ids, x ≤ 99999) ∧ GoodR ids.length [] no R ∧ tableF st = (ids, R.map Prod.fst, cntL R, putL 0 R no, some []) := by
  have h0 := h
  unfold tableF at h
  simp only at h
  generalize hn : numF (stMark st) 0 60 = q at *
  obtain ⟨n, st1⟩ := q
  simp only at h
  generalize hm : numF (riseN 99999 st1 n).2.2 0 3600 = p at *
  obtain ⟨m, st2⟩ := p
  simp only at h
  have hlen := riseN_len 99999 st1 n
  have hn60 : n ≤ 60 := by
    have := numF_le (stMark st) 0 60
    have e : (numF (stMark st) 0 ((60 : Nat) : Int)) = (n, st1) := hn
    rw [e] at this
    exact this
  obtain ⟨R, j1, j2, j3, j4⟩ := terms_inv (riseN 99999 st1 n).1.length (by rw [hlen]; exact hn60) m [] 0 no st2 [] h
  subst j2
  obtain ⟨e1, e2, e3, e4⟩ := num_inv _ _ _ _ _ hm
  cases st1 with
  | none => rw [riseN_none] at e1; simp at e1
  | some l =>
    obtain ⟨i1, i2, i3, i4⟩ := rise_inv 99999 l n _ e1
    obtain ⟨a1, a2, a3, a4⟩ := num_inv _ _ _ _ _ hn
    have hmk := mark_inv _ _ a1
    refine ⟨(riseN 99999 (some l) n).1, R, ?_, by rw [hlen]; exact hn60, by omega, i2, fun x hx => by have := (i3 x hx).1; omega, j3, ?_⟩
    · rw [hmk, hlen, j1]
      congr 3
      have e := i1
      rw [List.append_nil] at e
      exact e
    · unfold tableF
      simp only [hn, hm]
      rw [j4]
      simp
end Go.Proofs.YtbkepgmgebmceaaGreatDoor.Pak
