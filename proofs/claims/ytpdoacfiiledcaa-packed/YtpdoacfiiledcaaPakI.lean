import Derived.Test.YtpdoacfiiledcaaPakG
namespace Go.Proofs.Ytpdoacfiiledcaa.Pak
open Go.RowKit Go.Proofs.Ytpdoacfiiledcaa SiftM
set_option linter.unusedVariables false

theorem vw_of_owns {w : World} {base n cap : Nat} {a : Option Addr} {l : List UInt8} (h : w.ownsRow base 5 1 (.slice a n cap) n (byV l)) (hl : l.length = n) : Vw w w.heap.size a l := by
  rcases h.2 with ⟨e, rfl⟩ | ⟨g, cap', cur, e, hb, hgg, rest⟩
  · simp at e
    exact .inl ⟨List.eq_nil_of_length_eq_zero hl, e.1⟩
  · simp at e
    obtain ⟨rfl, rfl⟩ := e
    refine .inr ⟨g, 0, rfl, heap_lt hgg, fun j hj => ?_⟩
    have := h.cells (g := g) rfl j (.int .u8 (l[j].toNat : Int)) (by simp [byV, hj])
    have e : (⟨g, 0, none⟩ : Addr).add j = ⟨g, j, none⟩ := by unfold Addr.add; split <;> simp_all
    rw [e] at this
    simpa using this

/-- The sum's two numbers behind some bytes. -/
def adl : List UInt8 → Nat × Nat → Nat × Nat
  | [], p => p
  | c :: r, p => adl r ((p.1 + c.toNat) % 65521, (p.2 + (p.1 + c.toNat) % 65521) % 65521)
def sumN (l : List UInt8) : List Nat := [(adl l (1, 0)).2 / 256, (adl l (1, 0)).2 % 256, (adl l (1, 0)).1 / 256, (adl l (1, 0)).1 % 256]
def sumB (l : List UInt8) : List UInt8 := (sumN l).map UInt8.ofNat
def sumA (l : List UInt8) : Value := .agg ((sumN l).map fun (n : Nat) => Value.int .u8 (n : Int)).toArray
theorem adl_lt : ∀ (l : List UInt8) (p : Nat × Nat), p.1 < 65521 → p.2 < 65521 → (adl l p).1 < 65521 ∧ (adl l p).2 < 65521
  | [], p, h1, h2 => ⟨h1, h2⟩
  | c :: r, p, h1, h2 => adl_lt r _ (Nat.mod_lt _ (by omega)) (Nat.mod_lt _ (by omega))
theorem adl_snoc : ∀ (l : List UInt8) (c : UInt8) (p : Nat × Nat), adl (l ++ [c]) p = (((adl l p).1 + c.toNat) % 65521, ((adl l p).2 + ((adl l p).1 + c.toNat) % 65521) % 65521)
  | [], c, p => rfl
  | d :: r, c, p => by rw [List.cons_append, adl, adl_snoc r c]; rfl
theorem take_snocL {α : Type} (l : List α) (k : Nat) (h : k < l.length) : l.take (k + 1) = l.take k ++ [l[k]] := by
  rw [List.take_add_one, List.getElem?_eq_getElem h]; rfl

set_option maxHeartbeats 800000 in
set_option maxRecDepth 100000 in
theorem sum_any (a : Option Addr) (cap : Nat) (l : List UInt8) (w : World) (hv : Vw w w.heap.size a l) (hl : l.length ≤ 4000000) :
    Calls Try.prog 51 #[.slice a l.length cap] w fun e w' => e = .returned (sumA l) ∧ Kp [] w w' := by
  have HV := hide hv
  clear hv
  go_enter Try.func51, Try.ntmps51
  go_wp2_with fail
  obtain ⟨W1, hW1⟩ : ∃ W1, w.alloc (.cells #[.int .u8 0, .int .u8 0, .int .u8 0, .int .u8 0] 104) = W1 := ⟨_, rfl⟩
  rw [hW1]
  have k0 : Kp [] w W1 := by rw [← hW1]; exact (Kp.refl _ _).alloc _
  have hb0 : W1.heap[w.heap.size]? = some (.cells #[.int .u8 0, .int .u8 0, .int .u8 0, .int .u8 0] 104 (0, 0)) := by rw [← hW1]; exact heap_alloc_new w _
  have HB0 := hide hb0
  have hv1 := vw_kp HV.out k0 (by simp)
  have HV1 := hide hv1
  clear hW1 hb0 hv1 HV
  go_loopw [3, 4, 9] (fun av bv iv wr => ∃ k : Nat, k ≤ l.length ∧ iv = .int .i64 k ∧ av = .int .i64 ((adl (l.take k) (1, 0)).1 : Nat) ∧ bv = .int .i64 ((adl (l.take k) (1, 0)).2 : Nat) ∧ wr = W1) (fun _ _ iv _ => l.length - (intOf iv).toNat)
  case atStart => exact ⟨0, by omega, rfl, rfl, rfl, rfl⟩
  case round =>
    obtain ⟨k, hk, rfl, rfl, rfl, rfl⟩ := hrel
    have hlt2 := adl_lt (l.take k) (1, 0) (by decide) (by decide)
    by_cases hlt : k < l.length
    · obtain ⟨g, off, rfl, hg, hc⟩ : ∃ g off, a = some ⟨g, off, none⟩ ∧ g < w.heap.size ∧ ∀ j (h : j < l.length), wr.cell? ⟨g, off + j, none⟩ = some (.int .u8 (l[j].toNat : Int)) := by
        rcases HV1.out with ⟨h, _⟩ | h
        · subst h; simp at hlt
        · exact h
      have hck := hc k hlt
      have hsn := hide (adl_snoc (l.take k) l[k] (1, 0))
      rw [← take_snocL l k hlt] at hsn
      have c256 : l[k].toNat < 256 := l[k].toNat_lt
      obtain ⟨x, hx⟩ : ∃ x, (adl (l.take k) (1, 0)).1 = x := ⟨_, rfl⟩
      obtain ⟨y, hy⟩ : ∃ y, (adl (l.take k) (1, 0)).2 = y := ⟨_, rfl⟩
      obtain ⟨c, hc'⟩ : ∃ c, l[k].toNat = c := ⟨_, rfl⟩
      rw [hx, hy, hc'] at hsn
      rw [hx, hy] at hlt2 ⊢
      rw [hc'] at hck c256
      obtain ⟨h1, h2⟩ := hlt2
      clear hc hx hy hc'
      go_wp2_with fail
      go_roundw
      case rel =>
        refine ⟨k + 1, by omega, by go_num, ?_, ?_, by trivial⟩
        · rw [hsn.out]; go_num
        · rw [hsn.out]; go_num
      case measure => simp [intOf]; omega
    · have e : k = l.length := by omega
      subst e
      rw [List.take_length] at hlt2 ⊢
      have hres : Hid (sumA l = .agg #[.int .u8 (((adl l (1, 0)).2 / 256 : Nat) : Int), .int .u8 (((adl l (1, 0)).2 % 256 : Nat) : Int), .int .u8 (((adl l (1, 0)).1 / 256 : Nat) : Int), .int .u8 (((adl l (1, 0)).1 % 256 : Nat) : Int)]) := rfl
      obtain ⟨x, hx⟩ : ∃ x, (adl l (1, 0)).1 = x := ⟨_, rfl⟩
      obtain ⟨y, hy⟩ : ∃ y, (adl l (1, 0)).2 = y := ⟨_, rfl⟩
      rw [hx, hy] at hlt2 hres ⊢
      obtain ⟨h1, h2⟩ := hlt2
      clear hx hy
      have hcell : ∀ j, j < 4 → wr.cell? ⟨w.heap.size, j, none⟩ = some (.int .u8 0) := by
        intro j hj
        have := HB0.out
        simp only [World.cell?, this]
        match j, hj with
        | 0, _ => rfl
        | 1, _ => rfl
        | 2, _ => rfl
        | 3, _ => rfl
      have hfz : ∀ j, wr.frozen? ⟨w.heap.size, j, none⟩ = false := fun j => by simp [World.frozen?, HB0.out]
      have c0 := hcell 0 (by omega)
      have c1 := hcell 1 (by omega)
      have c2 := hcell 2 (by omega)
      have c3 := hcell 3 (by omega)
      have f0 := hfz 0
      have f1 := hfz 1
      have f2 := hfz 2
      have f3 := hfz 3
      clear hcell hfz
      go_wp2_with fail
      refine bodyPost_ret (v := .agg #[.int .u8 ((y : Int) / 256), .int .u8 ((y : Int) % 256), .int .u8 ((x : Int) / 256), .int .u8 ((x : Int) % 256)]) (by simp [results, Try.results51, go_sem, c0, c1, c2, c3]) rfl ⟨?_, ?_⟩
      · rw [hres.out]; rfl
      · exact (((k0.setCell (.inr (by simp)) _).setCell (.inr (by simp)) _).setCell (.inr (by simp)) _).setCell (.inr (by simp)) _
end Go.Proofs.Ytpdoacfiiledcaa.Pak
