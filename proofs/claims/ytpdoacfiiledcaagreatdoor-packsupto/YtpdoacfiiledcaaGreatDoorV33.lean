import Derived.Test.YtpdoacfiiledcaaGreatDoorV16
import Derived.Test.YtpdoacfiiledcaaGreatDoorV32
import Derived.Maps.AppendAt

namespace Go.Proofs.YtpdoacfiiledcaaGreatDoor.Own
open Go.RowKit Go.Proofs.YtpdoacfiiledcaaGreatDoor
open Go.Proofs.YtpdoacfiiledcaaGreatDoor.Spl
set_option linter.unusedVariables false

theorem wpList_append_opt {P : Program} (w : World) {ops : Array Oper} {rest : List Oper} {o : Oper} {a : Act} {Q : Exit → Act → World → Prop} (hgd : o.guard = none) (s x : Operand) (t : TypeId)
    (ho : o.op = .call { callee := .builtin .append, args := #[s, x], argTypes := #[t, t] })
    (base : Nat) (e : TypeId) (i : TypeInfo) (z : Value) (size bytes : Nat) (ht : P.underlying t = some (.slice e)) (hi : P.info? e = some i) (hz : i.zero = some z)
    (hsize : i.size = size) (hby : i.bytes = bytes) (hzs : z.cells.size = size) (hsz : 0 < size)
    (v : Value) (n : Nat) (xs : List Value) (hs : a.eval s = v) (hown : w.ownsRow base e size v n xs)
    (ad : Option Addr) (m c : Nat) (news : List Value) (hx : a.eval x = .slice ad m c) (hnone : ad = none → m = 0 ∧ c = 0) (hl : news.length = m * size)
    (hsrc : ∀ adr, ad = some adr → ∀ j u, news[j]? = some u → w.cell? (adr.add j) = some u) (h1 : ∀ u ∈ news, u.oneCell' = true)
    (h63 : n + m ≤ maxLen) (hbytes : (n + m) * bytes ≤ 140737488355328) (hbase : base ≤ w.heap.size)
    (h : ∀ v' w', w'.ownsRow base e size v' (n + m) (xs ++ news) → w.grownBy w' v.ownBlock → (v'.ownBlock = v.ownBlock ∨ v'.ownBlock = some w.heap.size) → wpList P ops Q rest (a.put o.dst v') w') :
    wpList P ops Q (o :: rest) a w := by
  cases ad with
  | none =>
    obtain ⟨rfl, rfl⟩ := hnone rfl
    have hn : news = [] := List.eq_nil_of_length_eq_zero (by simpa using hl)
    subst hn
    refine wpList_append_own_none hgd s x t ho base e i size ht hi v n xs hs hown hx ?_
    exact h v w (by simpa using hown) (World.grownBy.refl _ _) (.inl rfl)
  | some adr =>
    refine wpList_append_own_at w hgd s x t ho base e i z size bytes ht hi hz hsize hby hzs hsz v n xs hs hown adr m c news hx hl (hsrc adr rfl) h1 h63 hbytes hbase ?_
    intro v' w' h1 h2 _ h3
    exact h v' w' h1 h2 h3


theorem owns_capG {w : World} {base size n c : Nat} {e : TypeId} {a : Option Addr} {xs : List Value} (h : w.ownsRow base e size (.slice a n c) n xs) : n ≤ c := by
  rcases h.2 with ⟨h', h0⟩ | ⟨g, cap, cur, h', _, _, hn, _⟩
  · omega
  · cases h'; exact hn

set_option maxHeartbeats 1000000 in
set_option maxRecDepth 100000 in
theorem wideDocs_any (a : Option Addr) (cap n : Nat) (D : List Pak.Dc) (w : World) (hD : Pak.DocsAt w a D) (hn : D.length = n) (hnone : a = none → n = 0 ∧ cap = 0) (hb : n ≤ 2000000000) :
    Calls Tryz.prog 77 #[.slice a n cap] w fun e w' => ∃ g c, e = .returned (.slice (some ⟨g, 0, none⟩) n c) ∧ n + 1 ≤ c ∧ w'.ownsRow w.heap.size 261 2 (.slice (some ⟨g, 0, none⟩) (n + 1) c) (n + 1) (Pak.docV D ++ [.int .i64 (-1000), .string ⟨#[]⟩]) ∧ Kp [] w w' := by
  obtain ⟨i0, hi, hz0, hz1, hz2⟩ := info_parts Pak.info43
  have hl : (Pak.docV D).length = n * 2 := by rw [Pak.docV_len, hn]
  have hsrc : ∀ adr, a = some adr → ∀ j u, (Pak.docV D)[j]? = some u → w.cell? (adr.add j) = some u := by
    intro adr ha j u hu
    have hj : j < (Pak.docV D).length := by
      rcases Nat.lt_or_ge j (Pak.docV D).length with h | h
      · exact h
      · rw [List.getElem?_eq_none h] at hu; simp at hu
    rcases hD with rfl | ⟨b, off, e, hlt, hc⟩
    · simp [Pak.docV] at hj
    · rw [e] at ha; injection ha with ha; subst ha
      have hi' : j / 2 < D.length := by rw [Pak.docV_len] at hj; omega
      have hg := Pak.docV_get D (j / 2) hi'
      have hcc := hc (j / 2) hi'
      have ea : (⟨b, off, none⟩ : Addr).add j = ⟨b, off + j, none⟩ := by unfold Addr.add; split <;> simp_all
      rw [ea]
      rcases Nat.mod_two_eq_zero_or_one j with h0 | h0
      · have ej : j = j / 2 * 2 := by omega
        rw [ej] at hu ⊢
        rw [hg.1] at hu
        rw [hcc.1]; exact hu
      · have ej : j = j / 2 * 2 + 1 := by omega
        rw [ej] at hu ⊢
        rw [hg.2] at hu
        rw [← Nat.add_assoc, hcc.2]; exact hu
  have h1 : ∀ u ∈ Pak.docV D, u.oneCell' = true := by
    intro u hu
    unfold Pak.docV at hu
    obtain ⟨x, _, hx⟩ := List.mem_flatMap.1 hu
    simp [Pak.encDoc] at hx
    rcases hx with rfl | rfl <;> rfl
  have HS := hide hsrc
  have H1 := hide h1
  have HL := hide hl
  have HNO := hide hnone
  clear hsrc h1 hl hnone hD hn
  go_enter Tryz.func77, Tryz.ntmps77
  go_wp2_with (first
    | (at_builtin; refine wpList_append_opt _ rfl _ _ 66 rfl w.heap.size 261 i0 (.agg #[.int .i64 0, .string ⟨#[]⟩]) 2 24 Tryz.underlying66 hi hz0 hz1 hz2 rfl (by decide) (.slice none 0 0) 0 [] rfl (World.ownsRow_nil _ _ _ _) a n cap (Pak.docV D) rfl HNO.out HL.out HS.out H1.out (by unfold maxLen; omega) (by omega) (Nat.le_refl _) ?_; intro v1 w1 hown1 hgrow1 hloc1; rw [Nat.zero_add, List.nil_append] at hown1; obtain ⟨a1, c1, rfl, hs1⟩ := owns_forms hown1; clear hloc1 hs1)
    | (at_builtin; refine wpList_append_own_at _ rfl _ _ 66 rfl w.heap.size 261 i0 (.agg #[.int .i64 0, .string ⟨#[]⟩]) 2 24 Tryz.underlying66 hi hz0 hz1 hz2 rfl (by decide) _ _ _ rfl (hown1.alloc _) ⟨w1.heap.size, 0, none⟩ 1 1 [.int .i64 (-1000), .string ⟨#[]⟩] rfl rfl (World.news_of_block (cs := #[.int .i64 (-1000), .string ⟨#[]⟩]) (t := 261) (fr := (0, 0)) (heap_alloc_new _ _)) (by intro u hu; simp at hu; rcases hu with rfl | rfl <;> rfl) (by unfold maxLen; omega) (by omega) (by have := hgrow1.size; simp at this ⊢; omega) ?_; intro v2 w2 hown2 hgrow2 _ hloc2; obtain ⟨a2, c2, rfl, hs2⟩ := owns_forms hown2; obtain ⟨g2, rfl⟩ := hs2 (by omega); have hc2 := owns_capG hown2; have hgrow3 : (w1.alloc (.cells #[.int .i64 (-1000), .string ⟨#[]⟩] 261)).grownBy w2 (Value.slice a1 n c1).ownBlock := hgrow2; clear hs2 hloc2 hgrow2)
    | fail)
  go_ret
  refine ⟨g2, c2, rfl, hc2, hown2, ?_⟩
  have k1 : Kp [] w w1 := (Pak.Kp.refl [] w).grown hgrow1 (fun k hk => by cases hk)
  exact (k1.alloc _).grown hgrow3 (fun k hk => .inr (hown1.lt k hk).1)
end Go.Proofs.YtpdoacfiiledcaaGreatDoor.Own

namespace Go.Proofs.YtpdoacfiiledcaaGreatDoor.Own
open Go.RowKit Go.Proofs.YtpdoacfiiledcaaGreatDoor
open Go.Proofs.YtpdoacfiiledcaaGreatDoor.Spl
set_option linter.unusedVariables false

abbrev farC : List Value := [.int .i64 (-1000), .string ⟨#[]⟩]
theorem over_at (ws : List Value) (i f : Nat) (hf : f < 2) : (repG farC i ++ ws.drop (i * 2))[i * 2 + f]? = ws[i * 2 + f]? := by
  have hl : (repG farC i).length = i * 2 := by rw [repG_len]; rfl
  rw [List.getElem?_append_right (by omega), hl, List.getElem?_drop, show i * 2 + (i * 2 + f - i * 2) = i * 2 + f by omega]

set_option maxHeartbeats 2000000 in
set_option maxRecDepth 100000 in
theorem stillDocs_any (base g c cap n : Nat) (a : Option Addr) (D : List Pak.Dc) (w : World) (hD : Pak.DocsAt w a D) (hDb : 0 < n → ∀ b off, a = some ⟨b, off, none⟩ → b ≠ g) (hn : D.length = n) (hb : n ≤ 2000000000) (hc : n + 1 ≤ c)
    (hown : w.ownsRow base 261 2 (.slice (some ⟨g, 0, none⟩) (n + 1) c) (n + 1) (Pak.docV D ++ farC)) :
    Calls Tryz.prog 79 #[.slice (some ⟨g, 0, none⟩) n c, .slice a n cap] w fun e w' => e = .returned (.bool true) ∧ Kp [g] w w' := by
  have hl : (Pak.docV D ++ farC).length = (n + 1) * 2 := by rw [List.length_append, Pak.docV_len, hn]; simp; omega
  have hlast0 : w.cell? ⟨g, n * 2, none⟩ = some (.int .i64 (-1000)) := by
    rw [hown.cellAt (n * 2) (by omega), List.getElem?_append_right (by rw [Pak.docV_len, hn]; omega), Pak.docV_len, hn, Nat.sub_self]; rfl
  have hlast1 : w.cell? ⟨g, n * 2 + 1, none⟩ = some (.string ⟨#[]⟩) := by
    rw [hown.cellAt (n * 2 + 1) (by omega), List.getElem?_append_right (by rw [Pak.docV_len, hn]; omega), Pak.docV_len, hn, show n * 2 + 1 - n * 2 = 1 by omega]; rfl
  have HD := hide hD
  have HDb := hide hDb
  have HN := hide hn
  have HL := hide hl
  have HO : Hid (w.ownsRow base 261 2 (.slice (some ⟨g, 0, none⟩) (n + 1) c) (n + 1) (repG farC 0 ++ (Pak.docV D ++ farC).drop (0 * 2))) := by show World.ownsRow _ _ _ _ _ _ _; simpa [repG] using hown
  have hcI : (n : Int) + 1 ≤ (c : Int) := by omega
  clear hD hDb hn hl hown
  go_enter Tryz.func79, Tryz.ntmps79
  go_wp2_with fail
  clear hlast0 hlast1
  go_loopw [6, 7] (fun ov iv wr => ∃ i : Nat, i ≤ n ∧ iv = .int .i64 i ∧ ov = .bool true ∧ Hid (wr.ownsRow base 261 2 (.slice (some ⟨g, 0, none⟩) (n + 1) c) (n + 1) (repG farC i ++ (Pak.docV D ++ farC).drop (i * 2))) ∧ Hid (Kp [g] w wr)) (fun _ iv _ => n - (intOf iv).toNat)
  case atStart => exact ⟨0, by omega, rfl, rfl, HO, Pak.Kp.refl _ _⟩
  case round =>
    obtain ⟨i, hin, rfl, rfl, hown, hk⟩ := hrel
    by_cases hlt : i < n
    · have hiD : i < D.length := by rw [HN.out]; exact hlt
      obtain ⟨b, off, rfl, hbl, hcd⟩ : ∃ b off, a = some ⟨b, off, none⟩ ∧ b < w.heap.size ∧ ∀ i (h : i < D.length), w.cell? ⟨b, off + i * 2, none⟩ = some (.int .i64 D[i].1) ∧ w.cell? ⟨b, off + i * 2 + 1, none⟩ = some (.string D[i].2) := by
        rcases HD.out with h0 | ⟨b, off, e, h1, h2⟩
        · rw [h0] at hiD; simp at hiD
        · exact ⟨b, off, e, h1, h2⟩
      have hbg := HDb.out (by omega) b off rfl
      have l0 : wr.cell? ⟨b, off + i * 2, none⟩ = some (.int .i64 D[i].1) := hk.out.cellv (hcd i hiD).1 (by simpa using hbg)
      have l1 : wr.cell? ⟨b, off + i * 2 + 1, none⟩ = some (.string D[i].2) := hk.out.cellv (hcd i hiD).2 (by simpa using hbg)
      have hg0 := Pak.docV_get D i hiD
      have hdl : (Pak.docV D).length = n * 2 := by rw [Pak.docV_len, HN.out]
      have f0 : wr.cell? ⟨g, i * 2, none⟩ = some (.int .i64 D[i].1) := by
        rw [hown.out.cellAt (i * 2) (by omega)]
        have := over_at (Pak.docV D ++ farC) i 0 (by omega)
        rw [Nat.add_zero] at this
        rw [this, List.getElem?_append_left (by omega), hg0.1]
      have f1 : wr.cell? ⟨g, i * 2 + 1, none⟩ = some (.string D[i].2) := by
        rw [hown.out.cellAt (i * 2 + 1) (by omega), over_at (Pak.docV D ++ farC) i 1 (by omega), List.getElem?_append_left (by omega), hg0.2]
      have z0 : wr.frozen? ⟨g, i * 2, none⟩ = false := hown.out.frozenAt (i * 2)
      have z1 : wr.frozen? ⟨g, i * 2 + 1, none⟩ = false := hown.out.frozenAt (i * 2 + 1)
      have hst := hide (((hown.out.stored (i * 2) (.int .i64 (-1000))).1).stored (i * 2 + 1) (.string ⟨#[]⟩)).1
      have hmk := hide (mark2 (.int .i64 (-1000)) (.string ⟨#[]⟩) (n + 1) i (Pak.docV D ++ farC) HL.out (by omega))
      generalize D[i].1 = id at l0 f0
      generalize D[i].2 = bd at l1 f1
      have h1 : (i : Int) < (n : Int) := by omega
      have h1' : (i : Int) < (n : Int) + 1 := by omega
      have h0 : (0 : Int) ≤ (i : Int) := by omega
      clear hcd hg0 hdl
      go_wp2_with fail
      go_quiet (fail)
      go_wp2_with fail
      refine ⟨⟨i + 1, by omega, by go_num, rfl, ?_, ?_⟩, by simp [intOf]; omega⟩
      · show World.ownsRow _ _ _ _ _ _ _
        have := hst.out
        rw [hmk.out] at this
        exact this
      · exact ((hk.out.drewN _).setCell (p := ⟨g, i * 2, none⟩) (.inl (by simp)) _).setCell (p := ⟨g, i * 2 + 1, none⟩) (.inl (by simp)) _
    · go_wp2_with fail
      go_ret
      exact ⟨rfl, hk.out⟩
end Go.Proofs.YtpdoacfiiledcaaGreatDoor.Own
