import Derived.Test.YtpdoacfiiledcaaPaO
set_option linter.unusedVariables false
set_option maxRecDepth 4000
namespace Go.Proofs.Ytpdoacfiiledcaa.Pak
open Go.RowKit Go.Proofs.Ytpdoacfiiledcaa SiftM

def ins {α : Type} (l : List α) (a : Nat) (x : α) : List α := l.take a ++ x :: l.drop a
theorem ins_len {α : Type} (l : List α) (a : Nat) (x : α) (h : a ≤ l.length) : (ins l a x).length = l.length + 1 := by
  unfold ins; simp; omega
theorem ins_get {α : Type} (l : List α) (a : Nat) (x : α) (h : a ≤ l.length) (i : Nat) : (ins l a x)[i]? = if i < a then l[i]? else if i = a then some x else l[i - 1]? := by
  unfold ins
  rw [List.getElem?_append]
  have hl : (l.take a).length = a := by simp; omega
  rw [hl]
  by_cases h1 : i < a
  · rw [if_pos h1, if_pos h1, List.getElem?_take, if_pos h1]
  · rw [if_neg h1, if_neg h1]
    by_cases h2 : i = a
    · subst h2; simp
    · rw [if_neg h2]
      obtain ⟨d, hd⟩ : ∃ d, i - a = d + 1 := ⟨i - a - 1, by omega⟩
      rw [hd, List.getElem?_cons_succ, List.getElem?_drop]
      congr 1; omega
theorem ins_lo {α : Type} (l : List α) (a : Nat) (x : α) (h : a ≤ l.length) (i : Nat) (hi : i < (ins l a x).length) (h1 : i < a) : (ins l a x)[i] = l[i]'(by omega) := by
  have := ins_get l a x h i
  rw [if_pos h1, List.getElem?_eq_getElem hi, List.getElem?_eq_getElem (by omega)] at this
  exact Option.some.inj this
theorem ins_at {α : Type} (l : List α) (a : Nat) (x : α) (h : a ≤ l.length) (hi : a < (ins l a x).length) : (ins l a x)[a] = x := by
  have := ins_get l a x h a
  rw [if_neg (by omega), if_pos rfl, List.getElem?_eq_getElem hi] at this
  exact Option.some.inj this
theorem ins_hi {α : Type} (l : List α) (a : Nat) (x : α) (h : a ≤ l.length) (i : Nat) (hi : i < (ins l a x).length) (h1 : a < i) : (ins l a x)[i] = l[i - 1]'(by rw [ins_len l a x h] at hi; omega) := by
  have := ins_get l a x h i
  rw [if_neg (by omega), if_neg (by omega), List.getElem?_eq_getElem hi, List.getElem?_eq_getElem (by rw [ins_len l a x h] at hi; omega)] at this
  exact Option.some.inj this
theorem ins_map {α β : Type} (f : α → β) (l : List α) (a : Nat) (x : α) : (ins l a x).map f = ins (l.map f) a (f x) := by
  simp [ins, List.map_take, List.map_drop]
theorem ins_zip {α β : Type} (l : List α) (m : List β) (a : Nat) (x : α) (y : β) (h : l.length = m.length) : (ins l a x).zip (ins m a y) = ins (l.zip m) a (x, y) := by
  unfold ins
  rw [List.zip_append (by simp; omega)]
  simp [List.zip, List.take_zipWith, List.drop_zipWith]
theorem tx2_append (xs ys : List (Nat × Value)) : tx2 (xs ++ ys) = tx2 xs ++ tx2 ys := by simp [tx2]
theorem tx2_take : ∀ (xs : List (Nat × Value)) (a : Nat), tx2 (xs.take a) = (tx2 xs).take (a * 2)
  | [], a => by simp [tx2]
  | x :: r, 0 => by simp [tx2]
  | x :: r, a + 1 => by
    have ih := tx2_take r a
    have e : tx2 (x :: r) = .int .i64 (x.1 : Int) :: x.2 :: tx2 r := by simp [tx2]
    have e2 : tx2 (x :: r.take a) = .int .i64 (x.1 : Int) :: x.2 :: tx2 (r.take a) := by simp [tx2]
    rw [List.take_succ_cons, e, e2, ih, show (a + 1) * 2 = a * 2 + 1 + 1 by omega]
    rfl
theorem tx2_drop : ∀ (xs : List (Nat × Value)) (a : Nat), tx2 (xs.drop a) = (tx2 xs).drop (a * 2)
  | [], a => by simp [tx2]
  | x :: r, 0 => by simp
  | x :: r, a + 1 => by
    have ih := tx2_drop r a
    have e : tx2 (x :: r) = .int .i64 (x.1 : Int) :: x.2 :: tx2 r := by simp [tx2]
    rw [List.drop_succ_cons, e, ih, show (a + 1) * 2 = a * 2 + 1 + 1 by omega]
    rfl
theorem tx2_ins (xs : List (Nat × Value)) (a id : Nat) (lv : Value) : tx2 (ins xs a (id, lv)) = (tx2 xs).take (a * 2) ++ [.int .i64 (id : Int), lv] ++ (tx2 xs).drop (a * 2) := by
  unfold ins
  rw [tx2_append, tx2_take, ← tx2_drop]
  simp [tx2]

theorem TextsIs.ins {w w' : World} {base a id : Nat} {v v' lv : Value} {T : List Tx} {vs : List Value} {ws : List (List UInt8)} (h : TextsIs w base v T vs) (hl : w.ownsRow base 9 1 lv ws.length (strV ws)) (hap : ∀ i (hi : i < vs.length), ∀ g, vs[i].ownBlock = some g → lv.ownBlock ≠ some g) (ha : a ≤ T.length)
    (hrow : w'.ownsRow base 52 2 v' (T.length + 1) ((tx2 ((T.map Prod.fst).zip vs)).take (a * 2) ++ [.int .i64 (id : Int), lv] ++ (tx2 ((T.map Prod.fst).zip vs)).drop (a * 2))) (k : Kp [] w w') : TextsIs w' base v' (Pak.ins T a (id, ws)) (Pak.ins vs a lv) := by
  have hlen := h.len
  have hav : a ≤ vs.length := by omega
  refine ⟨by rw [ins_len _ _ _ hav, ins_len _ _ _ ha, hlen], ?_, ?_, ?_⟩
  · rw [ins_len _ _ _ ha, ins_map, ins_zip _ _ _ _ _ (by simp [hlen]), tx2_ins]
    exact hrow
  · intro i hi h2
    rw [ins_len _ _ _ ha] at hi
    by_cases h3 : i < a
    · rw [ins_lo vs a lv hav i h2 h3, ins_lo T a (id, ws) ha i (by rw [ins_len _ _ _ ha]; omega) h3]
      exact k.owns (h.each i (by omega) (by omega)) (by simp)
    · by_cases h4 : i = a
      · subst h4
        rw [ins_at vs i lv hav h2, ins_at T i (id, ws) ha (by rw [ins_len _ _ _ ha]; omega)]
        exact k.owns hl (by simp)
      · rw [ins_hi vs a lv hav i h2 (by omega), ins_hi T a (id, ws) ha i (by rw [ins_len _ _ _ ha]; omega) (by omega)]
        exact k.owns (h.each (i - 1) (by omega) (by omega)) (by simp)
  · intro i j hi hj hij g hg
    have hj' : j < vs.length + 1 := by rw [ins_len _ _ _ hav] at hj; exact hj
    by_cases j3 : j < a
    · rw [ins_lo vs a lv hav j hj j3]
      rw [ins_lo vs a lv hav i hi (by omega)] at hg
      exact h.apart i j (by omega) (by omega) hij g hg
    · by_cases j4 : j = a
      · subst j4
        rw [ins_at vs j lv hav hj]
        rw [ins_lo vs j lv hav i hi hij] at hg
        exact hap i (by omega) g hg
      · rw [ins_hi vs a lv hav j hj (by omega)]
        by_cases i3 : i < a
        · rw [ins_lo vs a lv hav i hi i3] at hg
          exact h.apart i (j - 1) (by omega) (by omega) (by omega) g hg
        · by_cases i4 : i = a
          · subst i4
            rw [ins_at vs i lv hav hi] at hg
            intro hg2
            exact hap (j - 1) (by omega) g hg2 hg
          · rw [ins_hi vs a lv hav i hi (by omega)] at hg
            exact h.apart (i - 1) (j - 1) (by omega) (by omega) (by omega) g hg

theorem sorted_ins (N : List Nd) (a : Nat) (x : Nd) (ha : a ≤ N.length) (h : Sorted N) (h1 : ∀ j (hj : j < N.length), j < a → N[j].1 < x.1) (h2 : ∀ (hj : a < N.length), x.1 < N[a].1) : Sorted (ins N a x) := by
  have hp := List.pairwise_iff_getElem.1 h
  have h2' : ∀ j (hj : j < N.length), a ≤ j → x.1 < N[j].1 := by
    intro j hj haj
    have h3 := h2 (by omega)
    by_cases e : j = a
    · subst e; exact h3
    · have := hp a j (by omega) hj (by omega); omega
  unfold Sorted
  rw [List.pairwise_iff_getElem]
  intro i j hi hj hij
  have hj' : j < N.length + 1 := by rw [ins_len _ _ _ ha] at hj; exact hj
  by_cases j3 : j < a
  · rw [ins_lo N a x ha j hj j3, ins_lo N a x ha i hi (by omega)]
    exact hp i j (by omega) (by omega) hij
  · by_cases j4 : j = a
    · subst j4
      rw [ins_at N j x ha hj, ins_lo N j x ha i hi hij]
      exact h1 i (by omega) hij
    · rw [ins_hi N a x ha j hj (by omega)]
      by_cases i3 : i < a
      · rw [ins_lo N a x ha i hi i3]
        exact hp i (j - 1) (by omega) (by omega) (by omega)
      · by_cases i4 : i = a
        · subst i4
          rw [ins_at N i x ha hi]
          exact h2' (j - 1) (by omega) (by omega)
        · rw [ins_hi N a x ha i hi (by omega)]
          exact hp (i - 1) (j - 1) (by omega) (by omega) (by omega)

theorem perm_ins (N N' : List Nd) (a : Nat) (x : Nd) (h : N'.Perm N) : (ins N' a x).Perm (N ++ [x]) := by
  have h1 : (ins N' a x).Perm (x :: N') := by
    unfold ins
    refine List.perm_middle.trans ?_
    rw [List.take_append_drop]
  exact h1.trans ((h.cons x).trans (List.perm_append_singleton x N).symm)

theorem txs_ins (N : List Nd) (a : Nat) (x : Nd) : txs (ins N a x) = ins (txs N) a (x.1, wordsB x.2) := by
  unfold txs
  rw [ins_map]

theorem pick_gen (c : Int) (n : Nat) (w : World) (h1 : -9223372036854775808 ≤ c) (h2 : c ≤ 9223372036854775807) (hn : 0 < n) (hn2 : n ≤ 1000000000) :
    Calls Try.prog 12 #[.int .i64 c, .int .i64 n] w fun e w' => (∃ m : Nat, m < n ∧ e = .returned (.int .i64 (m : Int))) ∧ w' = w := by
  by_cases h : c < 0
  · have hm : 0 ≤ (-(c + 1)) % (n : Int) ∧ (-(c + 1)) % (n : Int) < n := ⟨Int.emod_nonneg _ (by omega), Int.emod_lt_of_pos _ (by omega)⟩
    have HM := hide hm
    clear hm
    go_enter Try.func12, Try.ntmps12
    go_wp2
    go_ret
    refine ⟨⟨((-(c + 1)) % (n : Int)).toNat, by have := HM.out; omega, ?_⟩, rfl⟩
    have := HM.out
    exact ret_int (by rw [← Int.neg_tmod, Int.tmod_eq_emod_of_nonneg (by omega)]; omega)
  · have hm : 0 ≤ c % (n : Int) ∧ c % (n : Int) < n := ⟨Int.emod_nonneg _ (by omega), Int.emod_lt_of_pos _ (by omega)⟩
    have HM := hide hm
    clear hm
    go_enter Try.func12, Try.ntmps12
    go_wp2
    go_ret
    refine ⟨⟨(c % (n : Int)).toNat, by have := HM.out; omega, ?_⟩, rfl⟩
    have := HM.out
    exact ret_int (by omega)
/-- append of all of another list, wherever it begins. -/
theorem wpList_append_opt {P : Program} (w : World) {ops : Array Oper} {rest : List Oper} {o : Oper} {a : Act} {Q : Exit → Act → World → Prop} (hgd : o.guard = none) (s x : Operand) (t : TypeId)
    (ho : o.op = .call { callee := .builtin .append, args := #[s, x], argTypes := #[t, t] })
    (base : Nat) (e : TypeId) (i : TypeInfo) (z : Value) (size bytes : Nat) (ht : P.underlying t = some (.slice e)) (hi : P.info? e = some i) (hz : i.zero = some z)
    (hsize : i.size = size) (hby : i.bytes = bytes) (hzs : z.cells.size = size) (hsz : 0 < size)
    (v : Value) (n : Nat) (xs : List Value) (hs : a.eval s = v) (hown : w.ownsRow base e size v n xs)
    (ad : Option Addr) (m c : Nat) (news : List Value) (hx : a.eval x = .slice ad m c) (hnone : ad = none → m = 0 ∧ c = 0) (hl : news.length = m * size)
    (hsrc : ∀ adr, ad = some adr → ∀ j u, news[j]? = some u → w.cell? (adr.add j) = some u) (h1 : ∀ u ∈ news, u.oneCell' = true)
    (h63 : n + m ≤ maxLen) (hbytes : (n + m) * bytes ≤ 140737488355328) (hbase : base ≤ w.heap.size)
    (h : ∀ v' w', w'.ownsRow base e size v' (n + m) (xs ++ news) → w.grownBy w' v.ownBlock → (v'.ownBlock = v.ownBlock ∨ v'.ownBlock = some w.heap.size) → wpList P ops Q rest (a.put o.dst v') w') :
    wpList P ops Q (o :: rest) a w := by
  cases ad with
  | none =>
    obtain ⟨rfl, rfl⟩ := hnone rfl
    have hn : news = [] := List.eq_nil_of_length_eq_zero (by simpa using hl)
    subst hn
    refine wpList_append_own_none hgd s x t ho base e i size ht hi v n xs hs hown hx ?_
    exact h v w (by simpa using hown) (World.grownBy.refl _ _) (.inl rfl)
  | some adr =>
    refine wpList_append_own_at w hgd s x t ho base e i z size bytes ht hi hz hsize hby hzs hsz v n xs hs hown adr m c news hx hl (hsrc adr rfl) h1 h63 hbytes hbase ?_
    intro v' w' h1 h2 _ h3
    exact h v' w' h1 h2 h3

theorem size52 (w : World) : (sizeOf 52).run Try.prog w = .ok 2 w := by kernel_rfl
theorem add_zero' (g k : Nat) : (⟨g, 0, none⟩ : Addr).add k = ⟨g, k, none⟩ := by unfold Addr.add; split <;> simp_all

theorem slice_lo (at' : Option Addr) (n ct k : Nat) (w : World) (h : k ≤ n) (hc : n ≤ ct) (hform : ∀ x, at' = some x → ∃ g, x = ⟨g, 0, none⟩) :
    (Instr.slice 33 (.slice at' n ct) none (some (.int .i64 (k : Int))) none).run Try.prog w = .ok (.slice at' k ct) w := by
  have ht' : Try.prog.underlying 33 = some (.slice (Try.prog.elem 33)) := by simp [Program.elem, Try.underlying33]
  have he : Try.prog.elem 33 = 52 := by simp [Program.elem, Try.underlying33]
  rw [run_slice_h w 33 _ _ _ ht' .i64 _ (by omega) (by omega), he, size52]
  simp only [Result.andThen, sliced, Nat.zero_mul, Int.toNat_natCast, Nat.sub_zero]
  cases at' with
  | none => simp
  | some x =>
    obtain ⟨g, rfl⟩ := hform x rfl
    simp [add_zero']

theorem slice_hi (at' : Option Addr) (n ct k : Nat) (h : k ≤ n) (hc : n ≤ ct) (hnone : at' = none → n = 0 ∧ ct = 0) (hform : ∀ x, at' = some x → ∃ g, x = ⟨g, 0, none⟩) :
    ∃ ad, (∀ w, (Instr.slice 33 (.slice at' n ct) (some (.int .i64 (k : Int))) none none).run Try.prog w = .ok (.slice ad (n - k) (ct - k)) w) ∧ (ad = none → n - k = 0 ∧ ct - k = 0) ∧ ∀ adr, ad = some adr → 0 < n - k → ∃ g, at' = some ⟨g, 0, none⟩ ∧ adr = ⟨g, k * 2, none⟩ := by
  have ht' : Try.prog.underlying 33 = some (.slice (Try.prog.elem 33)) := by simp [Program.elem, Try.underlying33]
  have he : Try.prog.elem 33 = 52 := by simp [Program.elem, Try.underlying33]
  refine ⟨if ct = k then at' else at'.map (·.add (k * 2)), ?_, ?_, ?_⟩
  · intro w
    rw [run_slice_l w 33 _ _ _ ht' .i64 _ (by omega) (by omega), he, size52]
    simp only [Result.andThen, sliced, Int.toNat_natCast]
  · intro e
    cases at' with
    | none => obtain ⟨rfl, rfl⟩ := hnone rfl; omega
    | some x => split at e <;> simp at e
  · intro adr e hpos
    rw [if_neg (by omega)] at e
    cases at' with
    | none => simp at e
    | some x =>
      obtain ⟨g, rfl⟩ := hform x rfl
      simp only [Option.map_some, Option.some.injEq] at e
      exact ⟨g, rfl, by rw [← e, add_zero']⟩

theorem TextsIs.one {w : World} {base : Nat} {v : Value} {T : List Tx} {vs : List Value} (h : TextsIs w base v T vs) : ∀ u ∈ tx2 ((T.map Prod.fst).zip vs), u.oneCell' = true := by
  intro u hu
  unfold tx2 at hu
  obtain ⟨x, hx, hu⟩ := List.mem_flatMap.1 hu
  simp at hu
  rcases hu with rfl | rfl
  · rfl
  · have hm := (List.of_mem_zip hx).2
    obtain ⟨i, hi, e⟩ := List.getElem_of_mem hm
    have ho := h.each i (by rw [← h.len]; exact hi) hi
    obtain ⟨a, c, e2, _⟩ := owns_forms ho
    rw [← e, e2]; rfl

theorem docV_snoc (N : List Nd) (m : Nat) (bs : ByteArray) : docV (dcs (N ++ [(m, bs)])) = docV (dcs N) ++ [.int .i64 (m : Int), .string bs] := by
  simp [docV, dcs, encDoc]
end Go.Proofs.Ytpdoacfiiledcaa.Pak
