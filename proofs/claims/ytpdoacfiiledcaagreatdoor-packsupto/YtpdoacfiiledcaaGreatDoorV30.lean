import Derived.Test.YtpdoacfiiledcaaGreatDoorV29
import Derived.Test.YtpdoacfiiledcaaGreatDoorV28
import Derived.Laws.AppendOwnNone
set_option linter.unusedVariables false
set_option maxRecDepth 4000
namespace Go.Proofs.YtpdoacfiiledcaaGreatDoor.Pak
open Go.RowKit Go.Proofs.YtpdoacfiiledcaaGreatDoor Go.Proofs.YtpdoacfiiledcaaGreatDoor.Spl SiftM

def ins {α : Type} (l : List α) (a : Nat) (x : α) : List α := l.take a ++ x :: l.drop a
theorem ins_len {α : Type} (l : List α) (a : Nat) (x : α) (h : a ≤ l.length) : (ins l a x).length = l.length + 1 := by
  unfold ins; simp; omega
theorem ins_get {α : Type} (l : List α) (a : Nat) (x : α) (h : a ≤ l.length) (i : Nat) : (ins l a x)[i]? = if i < a then l[i]? else if i = a then some x else l[i - 1]? := by
  unfold ins
  rw [List.getElem?_append]
  have hl : (l.take a).length = a := by simp; omega
  rw [hl]
  by_cases h1 : i < a
  · rw [if_pos h1, if_pos h1, List.getElem?_take, if_pos h1]
  · rw [if_neg h1, if_neg h1]
    by_cases h2 : i = a
    · subst h2; simp
    · rw [if_neg h2]
      obtain ⟨d, hd⟩ : ∃ d, i - a = d + 1 := ⟨i - a - 1, by omega⟩
      rw [hd, List.getElem?_cons_succ, List.getElem?_drop]
      congr 1; omega
theorem ins_lo {α : Type} (l : List α) (a : Nat) (x : α) (h : a ≤ l.length) (i : Nat) (hi : i < (ins l a x).length) (h1 : i < a) : (ins l a x)[i] = l[i]'(by omega) := by
  have := ins_get l a x h i
  rw [if_pos h1, List.getElem?_eq_getElem hi, List.getElem?_eq_getElem (by omega)] at this
  exact Option.some.inj this
theorem ins_at {α : Type} (l : List α) (a : Nat) (x : α) (h : a ≤ l.length) (hi : a < (ins l a x).length) : (ins l a x)[a] = x := by
  have := ins_get l a x h a
  rw [if_neg (by omega), if_pos rfl, List.getElem?_eq_getElem hi] at this
  exact Option.some.inj this
theorem ins_hi {α : Type} (l : List α) (a : Nat) (x : α) (h : a ≤ l.length) (i : Nat) (hi : i < (ins l a x).length) (h1 : a < i) : (ins l a x)[i] = l[i - 1]'(by rw [ins_len l a x h] at hi; omega) := by
  have := ins_get l a x h i
  rw [if_neg (by omega), if_neg (by omega), List.getElem?_eq_getElem hi, List.getElem?_eq_getElem (by rw [ins_len l a x h] at hi; omega)] at this
  exact Option.some.inj this
theorem ins_map {α β : Type} (f : α → β) (l : List α) (a : Nat) (x : α) : (ins l a x).map f = ins (l.map f) a (f x) := by
  simp [ins, List.map_take, List.map_drop]
theorem ins_zip {α β : Type} (l : List α) (m : List β) (a : Nat) (x : α) (y : β) (h : l.length = m.length) : (ins l a x).zip (ins m a y) = ins (l.zip m) a (x, y) := by
  unfold ins
  rw [List.zip_append (by simp; omega)]
  simp [List.zip, List.take_zipWith, List.drop_zipWith]
theorem sorted_ins (N : List Nd) (a : Nat) (x : Nd) (ha : a ≤ N.length) (h : Sorted N) (h1 : ∀ j (hj : j < N.length), j < a → N[j].1 < x.1) (h2 : ∀ (hj : a < N.length), x.1 < N[a].1) : Sorted (ins N a x) := by
  have hp := List.pairwise_iff_getElem.1 h
  have h2' : ∀ j (hj : j < N.length), a ≤ j → x.1 < N[j].1 := by
    intro j hj haj
    have h3 := h2 (by omega)
    by_cases e : j = a
    · subst e; exact h3
    · have := hp a j (by omega) hj (by omega); omega
  unfold Sorted
  rw [List.pairwise_iff_getElem]
  intro i j hi hj hij
  have hj' : j < N.length + 1 := by rw [ins_len _ _ _ ha] at hj; exact hj
  by_cases j3 : j < a
  · rw [ins_lo N a x ha j hj j3, ins_lo N a x ha i hi (by omega)]
    exact hp i j (by omega) (by omega) hij
  · by_cases j4 : j = a
    · subst j4
      rw [ins_at N j x ha hj, ins_lo N j x ha i hi hij]
      exact h1 i (by omega) hij
    · rw [ins_hi N a x ha j hj (by omega)]
      by_cases i3 : i < a
      · rw [ins_lo N a x ha i hi i3]
        exact hp i (j - 1) (by omega) (by omega) (by omega)
      · by_cases i4 : i = a
        · subst i4
          rw [ins_at N i x ha hi]
          exact h2' (j - 1) (by omega) (by omega)
        · rw [ins_hi N a x ha i hi (by omega)]
          exact hp (i - 1) (j - 1) (by omega) (by omega) (by omega)

theorem perm_ins (N N' : List Nd) (a : Nat) (x : Nd) (h : N'.Perm N) : (ins N' a x).Perm (N ++ [x]) := by
  have h1 : (ins N' a x).Perm (x :: N') := by
    unfold ins
    refine List.perm_middle.trans ?_
    rw [List.take_append_drop]
  exact h1.trans ((h.cons x).trans (List.perm_append_singleton x N).symm)

theorem txs_ins (N : List Nd) (a : Nat) (x : Nd) : txs (ins N a x) = ins (txs N) a (x.1, wordsB x.2) := by
  unfold txs
  rw [ins_map]

/-- append of all of another list, wherever it begins. -/
theorem wpList_append_opt {P : Program} (w : World) {ops : Array Oper} {rest : List Oper} {o : Oper} {a : Act} {Q : Exit → Act → World → Prop} (hgd : o.guard = none) (s x : Operand) (t : TypeId)
    (ho : o.op = .call { callee := .builtin .append, args := #[s, x], argTypes := #[t, t] })
    (base : Nat) (e : TypeId) (i : TypeInfo) (z : Value) (size bytes : Nat) (ht : P.underlying t = some (.slice e)) (hi : P.info? e = some i) (hz : i.zero = some z)
    (hsize : i.size = size) (hby : i.bytes = bytes) (hzs : z.cells.size = size) (hsz : 0 < size)
    (v : Value) (n : Nat) (xs : List Value) (hs : a.eval s = v) (hown : w.ownsRow base e size v n xs)
    (ad : Option Addr) (m c : Nat) (news : List Value) (hx : a.eval x = .slice ad m c) (hnone : ad = none → m = 0 ∧ c = 0) (hl : news.length = m * size)
    (hsrc : ∀ adr, ad = some adr → ∀ j u, news[j]? = some u → w.cell? (adr.add j) = some u) (h1 : ∀ u ∈ news, u.oneCell' = true)
    (h63 : n + m ≤ maxLen) (hbytes : (n + m) * bytes ≤ 140737488355328) (hbase : base ≤ w.heap.size)
    (h : ∀ v' w', w'.ownsRow base e size v' (n + m) (xs ++ news) → w.grownBy w' v.ownBlock → (v'.ownBlock = v.ownBlock ∨ v'.ownBlock = some w.heap.size) → wpList P ops Q rest (a.put o.dst v') w') :
    wpList P ops Q (o :: rest) a w := by
  cases ad with
  | none =>
    obtain ⟨rfl, rfl⟩ := hnone rfl
    have hn : news = [] := List.eq_nil_of_length_eq_zero (by simpa using hl)
    subst hn
    refine wpList_append_own_none hgd s x t ho base e i size ht hi v n xs hs hown hx ?_
    exact h v w (by simpa using hown) (World.grownBy.refl _ _) (.inl rfl)
  | some adr =>
    refine wpList_append_own_at w hgd s x t ho base e i z size bytes ht hi hz hsize hby hzs hsz v n xs hs hown adr m c news hx hl (hsrc adr rfl) h1 h63 hbytes hbase ?_
    intro v' w' h1 h2 _ h3
    exact h v' w' h1 h2 h3

theorem add_zero' (g k : Nat) : (⟨g, 0, none⟩ : Addr).add k = ⟨g, k, none⟩ := by unfold Addr.add; split <;> simp_all


theorem slice_loG (ty e s : Nat) (hu : Tryz.prog.underlying ty = some (.slice e)) (hs : ∀ w, (sizeOf e).run Tryz.prog w = .ok s w) (at' : Option Addr) (n ct k : Nat) (w : World) (h : k ≤ n) (hc : n ≤ ct) (hform : ∀ x, at' = some x → ∃ g, x = ⟨g, 0, none⟩) :
    (Instr.slice ty (.slice at' n ct) none (some (.int .i64 (k : Int))) none).run Tryz.prog w = .ok (.slice at' k ct) w := by
  have he : Tryz.prog.elem ty = e := by simp [Program.elem, hu]
  have ht' : Tryz.prog.underlying ty = some (.slice (Tryz.prog.elem ty)) := by rw [he]; exact hu
  rw [run_slice_h w ty _ _ _ ht' .i64 _ (by omega) (by omega), he, hs]
  simp only [Result.andThen, sliced, Nat.zero_mul, Int.toNat_natCast, Nat.sub_zero]
  cases at' with
  | none => simp
  | some x =>
    obtain ⟨g, rfl⟩ := hform x rfl
    simp [add_zero']

theorem slice_hiG (ty e s : Nat) (hu : Tryz.prog.underlying ty = some (.slice e)) (hs : ∀ w, (sizeOf e).run Tryz.prog w = .ok s w) (at' : Option Addr) (n ct k : Nat) (h : k ≤ n) (hc : n ≤ ct) (hnone : at' = none → n = 0 ∧ ct = 0) (hform : ∀ x, at' = some x → ∃ g, x = ⟨g, 0, none⟩) :
    ∃ ad, (∀ w, (Instr.slice ty (.slice at' n ct) (some (.int .i64 (k : Int))) none none).run Tryz.prog w = .ok (.slice ad (n - k) (ct - k)) w) ∧ (ad = none → n - k = 0 ∧ ct - k = 0) ∧ ∀ adr, ad = some adr → 0 < n - k → ∃ g, at' = some ⟨g, 0, none⟩ ∧ adr = ⟨g, k * s, none⟩ := by
  have he : Tryz.prog.elem ty = e := by simp [Program.elem, hu]
  have ht' : Tryz.prog.underlying ty = some (.slice (Tryz.prog.elem ty)) := by rw [he]; exact hu
  refine ⟨if ct = k then at' else at'.map (·.add (k * s)), ?_, ?_, ?_⟩
  · intro w
    rw [run_slice_l w ty _ _ _ ht' .i64 _ (by omega) (by omega), he, hs]
    simp only [Result.andThen, sliced, Int.toNat_natCast]
  · intro e
    cases at' with
    | none => obtain ⟨rfl, rfl⟩ := hnone rfl; omega
    | some x => split at e <;> simp at e
  · intro adr e hpos
    rw [if_neg (by omega)] at e
    cases at' with
    | none => simp at e
    | some x =>
      obtain ⟨g, rfl⟩ := hform x rfl
      simp only [Option.map_some, Option.some.injEq] at e
      exact ⟨g, rfl, by rw [← e, add_zero']⟩

/-- What the two halves of an own list are, at whatever place it is cut. -/
theorem halves {w : World} {base e size n ct : Nat} {at' : Option Addr} {xs : List Value} (h : w.ownsRow base e size (.slice at' n ct) n xs) :
    (∀ x, at' = some x → ∃ g, x = ⟨g, 0, none⟩) ∧ (at' = none → n = 0 ∧ ct = 0) ∧ n ≤ ct ∧ (∀ g, at' = some ⟨g, 0, none⟩ → ∀ j u, xs[j]? = some u → w.cell? ⟨g, j, none⟩ = some u) := by
  refine ⟨?_, ?_, ?_, ?_⟩
  · intro x hx
    rcases h.2 with ⟨e1, _⟩ | ⟨g, cp, cur, e1, _⟩
    · cases e1; simp at hx
    · cases e1; exact ⟨g, (Option.some.inj hx).symm⟩
  · intro hx
    rcases h.2 with ⟨e1, e2⟩ | ⟨g, cp, cur, e1, _⟩
    · cases e1; exact ⟨e2, rfl⟩
    · cases e1; simp at hx
  · rcases h.2 with ⟨e1, e2⟩ | ⟨g, cp, cur, e1, e2⟩
    · cases e1; omega
    · cases e1; exact e2.2.2.1
  · intro g hg j u hu
    have := h.cells (g := g) (by rw [hg]; rfl) j u hu
    rwa [add_zero'] at this
end Go.Proofs.YtpdoacfiiledcaaGreatDoor.Pak
