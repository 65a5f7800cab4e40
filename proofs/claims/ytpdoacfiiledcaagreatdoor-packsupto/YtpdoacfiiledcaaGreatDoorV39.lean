import Derived.Test.YtpdoacfiiledcaaGreatDoorV03
import Derived.Test.YtpdoacfiiledcaaGreatDoorV38
set_option linter.unusedVariables false
namespace Go.Proofs.YtpdoacfiiledcaaGreatDoor.Own
open Go.RowKit Go.Proofs.YtpdoacfiiledcaaGreatDoor
open Go.Proofs.YtpdoacfiiledcaaGreatDoor.Spl Go.Proofs.YtpdoacfiiledcaaGreatDoor.Pak

/-- One step whose docs lie somewhere. -/
structure OpAtD (w : World) (b o : Nat) (k a b' c d : Int) (s : ByteArray) (al : Option Addr) (n capl : Nat) (nm fl : Value) (D : List Dc) : Prop where
  at' : OpAt w b o k a b' c d s (.slice al n capl) nm fl
  docs : DocsAt w al D
  len : D.length = n
  none' : al = none → n = 0 ∧ capl = 0
  few : n ≤ 2000000
  small : s.size ≤ 2000000
def ScriptAtD (w : World) (b off len : Nat) : Prop := ∀ i, i < len → ∃ (k a b' c d : Int) (s : ByteArray) (al : Option Addr) (n capl : Nat) (nm fl : Value) (D : List Dc), OpAtD w b (off + i * 9) k a b' c d s al n capl nm fl D

def ls0 : Ls := ⟨.slice none 0 0, .slice none 0 0, .slice none 0 0, .slice none 0 0, .slice none 0 0, .slice none 0 0, [], [], [], [], []⟩
theorem row_new {T : TypeId} {K : World → E1 → Nat → Prop} (w : World) (P : Nat) : Row T K w P [] (.slice none 0 0) := ⟨World.ownsRow_nil _ _ _ _, fun i x hx => by simp at hx⟩
theorem inv_new (w : World) : Inv (w.alloc worldO) w.heap.size ls0 :=
  ⟨heap_alloc_new w _, row_new _ _, row_new _ _, row_new _ _, row_new _ _, row_new _ _⟩
theorem docs_below {w w' : World} {B : Nat} {al : Option Addr} {D : List Dc} (h : DocsAt w al D) (hb : Below B w w') (hB : w.heap.size ≤ B) : DocsAt w' al D := by
  rcases h with h | ⟨b, off, e, h0, h1⟩
  · exact .inl h
  · exact .inr ⟨b, off, e, Nat.lt_of_lt_of_le h0 hb.size, fun i hi => ⟨by rw [hb.cell (by show b < _; omega)]; exact (h1 i hi).1, by rw [hb.cell (by show b < _; omega)]; exact (h1 i hi).2⟩⟩
/-- The lists after k steps. -/
structure Few (L : Ls) (k : Nat) : Prop where
  f1 : L.F1 = []
  f4 : L.F4 = []
  f2 : L.F2.length ≤ k * 60
  f3 : L.F3.length ≤ k
  f5 : L.F5.length ≤ k
theorem few_next {w : World} {P k : Nat} {L : Ls} (h : Few L k) (hg : Grew w P L) : ∃ L', Inv w P L' ∧ Few L' (k + 1) := by
  obtain ⟨L', hI, e1, e4, _, q2, q3, q5⟩ := hg
  have := h.f2
  have := h.f3
  have := h.f5
  exact ⟨L', hI, by rw [e1]; exact h.f1, by rw [e4]; exact h.f4, by omega, by omega, by omega⟩
theorem few_zero : Few ls0 0 := ⟨rfl, rfl, Nat.le_refl _, Nat.le_refl _, Nat.le_refl _⟩

set_option maxHeartbeats 1000000 in
set_option maxRecDepth 100000 in
/-- A step, whichever of the two kinds. -/
theorem step34_any (B P k : Nat) (L : Ls) (kk a b c d : Int) (s : ByteArray) (al : Option Addr) (capl n : Nat) (nm fl : Value) (D : List Dc) (w : World) (hkk : kk = 3 ∨ kk = 4) (hI : Inv w P L) (hF : Few L k) (hk : k ≤ 2000000) (hD : DocsAt w al D) (hn : D.length = n) (hnone : al = none → n = 0 ∧ capl = 0) (hb : n ≤ 2000000) (hT : Tab B w) (hB : B ≤ P) (hs : s.size ≤ 2000000) :
    Calls Tryz.prog 24 #[.pointer (some ⟨P, 0, none⟩), opA kk a b c d s (.slice al n capl) nm fl] w fun e w' => e = .returned (.bool true) ∧ (∃ L', Inv w' P L' ∧ Few L' (k + 1)) ∧ Below P w w' := by
  have h2 := hF.f2
  have h3 := hF.f3
  have h5 := hF.f5
  rcases hkk with rfl | rfl
  · refine (step3_any P L a b c d s al capl n nm fl D w hI hD hn hnone hb (by omega)).mono ?_
    rintro e w' ⟨rfl, hg, hb⟩
    exact ⟨rfl, few_next hF hg, hb⟩
  · refine (step4_any B P L a b c d s _ nm fl w hI hT hB hs (by omega) (by omega)).mono ?_
    rintro e w' ⟨rfl, hg, hb⟩
    exact ⟨rfl, few_next hF hg, hb⟩

set_option maxHeartbeats 1000000 in
set_option maxRecDepth 100000 in
theorem plays34_any (B b off len cap K : Nat) (w : World) (hlen : len ≤ 1999998) (hS : ScriptAtD w b off len) (hb : b < w.heap.size) (hK0 : w.cell? ⟨K, 0, none⟩ = some (.int .i64 3)) (hK1 : w.cell? ⟨K, 1, none⟩ = some (.int .i64 4)) (hKb : K < w.heap.size) (hT : Tab B w) (hB : B ≤ w.heap.size) :
    Calls Tryz.prog 13 #[.slice (some ⟨b, off, none⟩) len cap, .slice (some ⟨K, 0, none⟩) 2 2] w fun e w' => e = .returned (.bool true) ∧ Below w.heap.size w w' := by
  have hb0 : Below w.heap.size w (w.alloc worldO) := (Below.refl _ _).alloc (Nat.le_refl _) _
  have hT0 := hide (tab_on hT (hb0.mono hB))
  replace hS := hide hS
  replace hT := hide hT
  go_enter Tryz.func13, Tryz.ntmps13
  go_wp2_with fail
  refine (step34_any B w.heap.size 0 ls0 3 2 2 0 0 ⟨#[97]⟩ none 0 0 (.slice none 0 0) (.slice none 0 0) [] _ (.inl rfl) (inv_new w) few_zero (by omega) (.inl rfl) rfl (fun _ => ⟨rfl, rfl⟩) (by omega) hT0.out hB (by decide)).mono ?_
  rintro e w1 ⟨rfl, ⟨L1, hI1, hF1⟩, hb1⟩
  have hw0 : Below w.heap.size w w1 := hb0.trans hb1
  replace hI1 := hide hI1
  replace hF1 := hide hF1
  clear hb1 hT0 hb0
  go_wp2_with fail
  go_loopw [7] (fun i wr => ∃ (k : Nat) (L : Ls), k ≤ len ∧ i = .int .i64 k ∧ Hid (Inv wr w.heap.size L) ∧ Hid (∃ m, m ≤ k + 1 ∧ Few L m) ∧ Below w.heap.size w wr) (fun i _ => len - (intOf i).toNat)
  case atStart => exact ⟨0, L1, Nat.zero_le _, rfl, hI1, ⟨1, Nat.le_refl _, hF1.out⟩, hw0⟩
  case round =>
    clear hI1 hw0 hF1
    obtain ⟨k, L, hk, rfl, hI, hF, hw⟩ := hrel
    have hKr0 : wr.cell? ⟨K, 0, none⟩ = some (.int .i64 3) := by rw [hw.cell hKb]; exact hK0
    have hKr1 : wr.cell? ⟨K, 1, none⟩ = some (.int .i64 4) := by rw [hw.cell hKb]; exact hK1
    by_cases hlt : k < len
    · have h1 : (k : Int) < (len : Int) := by omega
      have h0 : (0 : Int) ≤ (k : Int) := by omega
      obtain ⟨kk, a, b', c, d, s, al, n, capl, nm, fl, D, hop⟩ := hS.out k hlt
      have hat := hop.at'
      have hc0 : wr.cell? ⟨b, off + k * 9, none⟩ = some (.int .i64 kk) := by rw [hw.cell hb]; exact hat.1
      have e1 : wr.cell? ⟨b, off + k * 9 + 1, none⟩ = some (.int .i64 a) := by rw [hw.cell hb]; exact hat.2.1
      have e2 : wr.cell? ⟨b, off + k * 9 + 2, none⟩ = some (.int .i64 b') := by rw [hw.cell hb]; exact hat.2.2.1
      have e3 : wr.cell? ⟨b, off + k * 9 + 3, none⟩ = some (.int .i64 c) := by rw [hw.cell hb]; exact hat.2.2.2.1
      have e4 : wr.cell? ⟨b, off + k * 9 + 4, none⟩ = some (.int .i64 d) := by rw [hw.cell hb]; exact hat.2.2.2.2.1
      have e5 : wr.cell? ⟨b, off + k * 9 + 5, none⟩ = some (.string s) := by rw [hw.cell hb]; exact hat.2.2.2.2.2.1
      have e6 : wr.cell? ⟨b, off + k * 9 + 6, none⟩ = some (.slice al n capl) := by rw [hw.cell hb]; exact hat.2.2.2.2.2.2.1
      have e7 : wr.cell? ⟨b, off + k * 9 + 7, none⟩ = some nm := by rw [hw.cell hb]; exact hat.2.2.2.2.2.2.2.1
      have e8 : wr.cell? ⟨b, off + k * 9 + 8, none⟩ = some fl := by rw [hw.cell hb]; exact hat.2.2.2.2.2.2.2.2
      clear hat
      replace hop := hide hop
      by_cases h2 : kk = 3 ∨ kk = 4
      · have HST : Hid (∀ X : World, Below w.heap.size w X → Inv X w.heap.size L → Calls Tryz.prog 24 #[.pointer (some ⟨w.heap.size, 0, none⟩), opA kk a b' c d s (.slice al n capl) nm fl] X fun e w' => e = .returned (.bool true) ∧ (∃ L', Inv w' w.heap.size L' ∧ ∃ m, m ≤ k + 2 ∧ Few L' m) ∧ Below w.heap.size X w') := by
          intro X hX hIX
          obtain ⟨m, hm, hFm⟩ := hF.out
          refine (step34_any B w.heap.size m L kk a b' c d s al capl n nm fl D X h2 hIX hFm (by omega) (docs_below hop.out.docs hX (Nat.le_refl _)) hop.out.len hop.out.none' hop.out.few (tab_on hT.out (hX.mono hB)) hB hop.out.small).mono ?_
          rintro e w' ⟨rfl, ⟨L', q1, q2⟩, q3⟩
          exact ⟨rfl, ⟨L', q1, m + 1, by omega, q2⟩, q3⟩
        unfold opA at HST
        have hq : (kk == 3) = true ∨ (kk == 3) = false ∧ (kk == 4) = true := by
          rcases h2 with rfl | rfl
          · exact .inl rfl
          · exact .inr ⟨rfl, rfl⟩
        clear h2
        rcases hq with hq | ⟨hq, hq4⟩
        all_goals
          go_wp2_with fail
          refine wp_loop_rounds 3 ?_
          rw [rounds_succ]
          go_wp2_with fail
          go_quiet (fail)
          go_wp2_with fail
          rw [rounds_succ]
          go_wp2_with fail
          go_quiet (fail)
          go_wp2_with fail
          rw [rounds_succ]
          go_wp2_with fail
          have hbq : ∀ m, Below wr.heap.size wr (wr.drewN m) := fun m => ⟨rfl, rfl, rfl, Nat.le_refl _, fun _ _ => rfl⟩
          have hw1 : ∀ m, Below w.heap.size w (wr.drewN m) := fun m => hw.trans ((hbq m).mono hw.size)
          refine (HST.out _ (hw1 _) (hI.out.later (hbq _))).mono ?_
          rintro e w2 ⟨rfl, ⟨L2, hI2, hF2⟩, hb2⟩
          clear e1 e2 e3 e4 e5 e6 e7 e8 hc0 hKr0 hKr1
          have hw2 : Below w.heap.size w w2 := (hw1 _).trans hb2
          have hT2 := hide (tab_on hT.out (hw2.mono hB))
          replace hI2 := hide hI2
          replace hF2 := hide hF2
          clear hb2 hI hw hw1 hbq HST hF hop
          have hz2 := hw2.size
          go_wp2_with fail
          have hlook : Calls Tryz.prog 25 #[.pointer (some ⟨w.heap.size, 1, none⟩)] w2 fun e w' => e = .returned (.bool true) ∧ Below w2.heap.size w2 w' := by
            obtain ⟨m, hm, hFm⟩ := hF2.out
            have q2 := hFm.f2
            have q3 := hFm.f3
            have q5 := hFm.f5
            exact looks_any5 B w.heap.size L2 _ hI2.out hFm.f1 hFm.f4 hT2.out (by omega) (by omega) (by omega) (by omega)
          refine hlook.mono ?_
          rintro e w3 ⟨rfl, hb3⟩
          have hI3 : Hid (Inv w3 w.heap.size L2) := hI2.out.later hb3
          have hw3 : Below w.heap.size w w3 := hw2.trans (hb3.mono hz2)
          clear hI2 hb3 hw2 hlook
          go_wp2_with fail
          exact ⟨⟨k + 1, L2, by omega, by go_num, hI3, hF2, hw3⟩, by simp [intOf]; omega⟩
      · have hq : (kk == 3) = false := by rw [beq_eq_false_iff_ne]; exact fun e => h2 (.inl e)
        have hq4 : (kk == 4) = false := by rw [beq_eq_false_iff_ne]; exact fun e => h2 (.inr e)
        clear h2
        go_wp2_with fail
        refine wp_loop_rounds 3 ?_
        rw [rounds_succ]
        go_wp2_with fail
        go_quiet (fail)
        go_wp2_with fail
        rw [rounds_succ]
        go_wp2_with fail
        go_quiet (fail)
        go_wp2_with fail
        rw [rounds_succ]
        go_wp2_with fail
        have hbq : ∀ m, Below wr.heap.size wr (wr.drewN m) := fun m => ⟨rfl, rfl, rfl, Nat.le_refl _, fun _ _ => rfl⟩
        have hw1 : ∀ m, Below w.heap.size w (wr.drewN m) := fun m => hw.trans ((hbq m).mono hw.size)
        have hF3 : Hid (∃ m, m ≤ k + 1 + 1 ∧ Few L m) := by
          obtain ⟨m, hm, hFm⟩ := hF.out
          exact ⟨m, by omega, hFm⟩
        exact ⟨⟨k + 1, L, by omega, by go_num, hI.out.later (hbq _), hF3, hw1 _⟩, by simp [intOf]; omega⟩
    · go_wp2_with fail
      go_ret
      exact ⟨rfl, hw⟩

set_option maxHeartbeats 1000000 in
set_option maxRecDepth 100000 in
theorem plays34_zero (B : Nat) (a : Option Addr) (cap K : Nat) (w : World) (hK0 : w.cell? ⟨K, 0, none⟩ = some (.int .i64 3)) (hKb : K < w.heap.size) (hT : Tab B w) (hB : B ≤ w.heap.size) :
    Calls Tryz.prog 13 #[.slice a 0 cap, .slice (some ⟨K, 0, none⟩) 2 2] w fun e w' => e = .returned (.bool true) ∧ Below w.heap.size w w' := by
  have hb0 : Below w.heap.size w (w.alloc worldO) := (Below.refl _ _).alloc (Nat.le_refl _) _
  have hT0 := hide (tab_on hT (hb0.mono hB))
  replace hT := hide hT
  go_enter Tryz.func13, Tryz.ntmps13
  go_wp2_with fail
  refine (step34_any B w.heap.size 0 ls0 3 2 2 0 0 ⟨#[97]⟩ none 0 0 (.slice none 0 0) (.slice none 0 0) [] _ (.inl rfl) (inv_new w) few_zero (by omega) (.inl rfl) rfl (fun _ => ⟨rfl, rfl⟩) (by omega) hT0.out hB (by decide)).mono ?_
  rintro e w1 ⟨rfl, ⟨L1, hI1, hF1⟩, hb1⟩
  have hw0 : Below w.heap.size w w1 := hb0.trans hb1
  clear hb1 hI1 hb0
  go_wp2_with fail
  refine wp_loop_rounds 1 ?_
  rw [rounds_succ]
  go_wp2_with fail
  go_ret
  exact ⟨rfl, hw0⟩

theorem scriptD_alloc {w : World} {b off len : Nat} (o : Obj) (h : ScriptAtD w b off len) (hb : b < w.heap.size) : ScriptAtD (w.alloc o) b off len := by
  have hbl : Below w.heap.size w (w.alloc o) := (Below.refl _ _).alloc (Nat.le_refl _) _
  intro i hi
  obtain ⟨k, a, b', c, d, s, al, n, capl, nm, fl, D, h⟩ := h i hi
  refine ⟨k, a, b', c, d, s, al, n, capl, nm, fl, D, ?_, docs_below h.docs hbl (Nat.le_refl _), h.len, h.none', h.few, h.small⟩
  have hat := h.at'
  unfold OpAt at hat ⊢
  have hcl : ∀ o', (w.alloc o).cell? ⟨b, o', none⟩ = w.cell? ⟨b, o', none⟩ := fun o' => hbl.cell hb
  simp only [hcl]
  exact hat

set_option maxHeartbeats 400000 in
theorem packs_zero (a : Option Addr) (cap : Nat) (w : World) (hT : Tab w.heap.size w) :
    Calls Tryz.prog 5 #[.slice a 0 cap] w fun e w' => e = .returned (.bool true) ∧ Below w.heap.size w w' := by
  have hT0 := hide (tab_on hT ((Below.refl w.heap.size w).alloc (Nat.le_refl _) (.cells #[.int .i64 3, .int .i64 4] 3)))
  replace hT := hide hT
  go_enter Tryz.func5, Tryz.ntmps5
  go_wp2_with fail
  refine (plays34_zero w.heap.size a cap w.heap.size _ (by rw [World.cell?_alloc_at _ _ _ _ rfl]; rfl) (by simp) hT0.out (by simp)).mono ?_
  rintro e w1 ⟨rfl, hb⟩
  go_wp2_with fail
  go_ret
  exact ⟨rfl, ((Below.refl _ _).alloc (Nat.le_refl _) _).trans (hb.mono (by simp))⟩

set_option maxHeartbeats 400000 in
theorem packs_any (b off len cap : Nat) (w : World) (hlen : len ≤ 1999998) (hS : ScriptAtD w b off len) (hb : b < w.heap.size) (hT : Tab w.heap.size w) :
    Calls Tryz.prog 5 #[.slice (some ⟨b, off, none⟩) len cap] w fun e w' => e = .returned (.bool true) ∧ Below w.heap.size w w' := by
  have hT0 := hide (tab_on hT ((Below.refl w.heap.size w).alloc (Nat.le_refl _) (.cells #[.int .i64 3, .int .i64 4] 3)))
  replace hT := hide hT
  go_enter Tryz.func5, Tryz.ntmps5
  go_wp2_with fail
  refine (plays34_any w.heap.size b off len cap w.heap.size _ hlen (scriptD_alloc _ hS hb) (by simp; omega) (by rw [World.cell?_alloc_at _ _ _ _ rfl]; rfl) (by rw [World.cell?_alloc_at _ _ _ _ rfl]; rfl) (by simp) hT0.out (by simp)).mono ?_
  rintro e w1 ⟨rfl, hb1⟩
  go_wp2_with fail
  go_ret
  exact ⟨rfl, ((Below.refl _ _).alloc (Nat.le_refl _) _).trans (hb1.mono (by simp))⟩
end Go.Proofs.YtpdoacfiiledcaaGreatDoor.Own
