import Derived.Test.YtpdoacfiiledcaaGreatDoorV10
import Derived.Test.YtpdoacfiiledcaaGreatDoorV11
import Derived.Maps.OwnSet
import Derived.DeepKeys4
namespace Go.Proofs.YtpdoacfiiledcaaGreatDoor.Pak
open Go.RowKit Go.Proofs.YtpdoacfiiledcaaGreatDoor Go.Proofs.YtpdoacfiiledcaaGreatDoor.Spl SiftM Go.Maps
set_option linter.unusedVariables false

theorem laidOut : laidOutB Tryz.prog = true := by kernel_rfl
theorem row95 : (410 : TypeId) < Tryz.prog.types.size := of_decide_eq_true (by kernel_rfl)
theorem deep95 : Tryz.prog.keyTypeAt 2 410 = true := by kernel_rfl
theorem wide95 : (match Tryz.prog.underlying 410 with | some (.array _ _) | some (.struct _) => true | _ => false) = true := by kernel_rfl
set_option maxRecDepth 100000 in
theorem spotK : Keyed Tryz.prog 410 := Keyed.of_law (deep_law_laid laidOut (m := 2) (by omega) row95 deep95 wide95)
def key (d p : Nat) : Lit := .string (keyBytes [.int .i64 (d : Int), .int .i64 (p : Int)])
theorem keyT95 : Tryz.prog.keyType 410 = true := by kernel_rfl
theorem types_size : ∃ m, Tryz.prog.types.size + 1 = m + 2 := ⟨Tryz.prog.types.size - 1, by have h : 410 < Tryz.prog.types.size := row95; omega⟩
theorem cells95 : Tryz.prog.cellsOf 410 = 2 := by kernel_rfl
theorem cells3 : Tryz.prog.cellsOf 3 = 1 := by kernel_rfl
theorem wf64 (n : Nat) (h : n ≤ 1099511627776) : (Lit.int .i64 (n : Int)).wf = true := WalkArith.wf_i64 (by omega)

theorem lits_spot (m d p : Nat) (hd : d ≤ 1099511627776) (hp : p ≤ 1099511627776) : Tryz.prog.keyLits (m + 2) 410 [.int .i64 (d : Int), .int .i64 (p : Int)] = some [.int .i64 (d : Int), .int .i64 (p : Int)] := by
  unfold Program.keyLits
  simp only [Tryz.underlying410]
  rw [if_pos ⟨by rw [cells95]; rfl, by simp⟩]
  simp [cells3, Program.keyLits, Tryz.underlying3, wf64 d hd, wf64 p hp]
theorem keyOf_spot (d p : Nat) (hd : d ≤ 1099511627776) (hp : p ≤ 1099511627776) : keyOf Tryz.prog 410 (.agg #[.int .i64 (d : Int), .int .i64 (p : Int)]) = some (key d p) := by
  obtain ⟨m, hm⟩ := types_size
  unfold keyOf
  simp only [Tryz.underlying410]
  rw [if_pos (by simp [keyT95, Value.formed, Tryz.underlying410, cells95]), hm]
  have := lits_spot m d p hd hp
  simp only [Value.cells]
  rw [this]
  rfl
theorem key_inj {d p d' p' : Nat} (hd : d ≤ 1099511627776) (hp : p ≤ 1099511627776) (hd' : d' ≤ 1099511627776) (hp' : p' ≤ 1099511627776) (h : key d p = key d' p') : d = d' ∧ p = p' := by
  have e : keyBytes [.int .i64 (d : Int), .int .i64 (p : Int)] = keyBytes [.int .i64 (d' : Int), .int .i64 (p' : Int)] := by
    have := h; unfold key at this; simpa using this
  have h2 := keyLits_inj (lits_spot 0 d p hd hp) (lits_spot 0 d' p' hd' hp') e
  simp at h2
  omega

/-- Block M is a map of c entries that says f. -/
def MapIs (w : World) (M c : Nat) (f : Nat → Nat → Option Nat) : Prop :=
  ∃ D : DataW Unit, w.ownsMap Tryz.prog 410 (plainElem Tryz.prog 3) M c D ∧ Maps.size D = c ∧
    (∀ d p, d ≤ 1099511627776 → p ≤ 1099511627776 → Maps.has D (key d p) = (f d p).isSome) ∧
    ∀ d p, d ≤ 1099511627776 → p ≤ 1099511627776 → ∀ v, f d p = some v → D.atKey (key d p) (.lit (.int .i64 0)) = .lit (.int .i64 (v : Int))
theorem MapIs.lt {w : World} {M c : Nat} {f : Nat → Nat → Option Nat} (h : MapIs w M c f) : M < w.heap.size := by
  obtain ⟨D, h1, _⟩ := h; exact h1.lt
theorem MapIs.block {w : World} {M c : Nat} {f : Nat → Nat → Option Nat} (h : MapIs w M c f) : ∃ es clock, w.heap[M]? = some (.map es clock) := by
  obtain ⟨D, ⟨es, clock, h1, _⟩, _⟩ := h; exact ⟨es, clock, h1⟩
theorem MapIs.kp {S : List Nat} {w w' : World} {M c : Nat} {f : Nat → Nat → Option Nat} (h : MapIs w M c f) (k : Kp S w w') (hM : M ∉ S) : MapIs w' M c f := by
  obtain ⟨D, ⟨es, clock, h1, h2⟩, h3⟩ := h
  exact ⟨D, ⟨es, clock, k.heap h1 hM, h2⟩, h3⟩
theorem MapIs.kb {t : TypeId} {S : List Nat} {base : Nat} {w w' : World} {M c : Nat} {f : Nat → Nat → Option Nat} (h : MapIs w M c f) (k : Kb t S base w w') (hM : M ∉ S) : MapIs w' M c f := by
  obtain ⟨D, ⟨es, clock, h1, h2⟩, h3⟩ := h
  exact ⟨D, ⟨es, clock, k.block M _ hM h1 (.inr (fun cs fr e => by simp at e)), h2⟩, h3⟩
theorem mapIs_made (w : World) : MapIs (w.alloc (.map #[] 0)) w.heap.size 0 fun _ _ => none := by
  refine ⟨.map [], World.ownsMap_made _ _ _ _, rfl, fun d p _ _ => rfl, fun d p _ _ v hv => by simp at hv⟩

def putAt (f : Nat → Nat → Option Nat) (d p v : Nat) : Nat → Nat → Option Nat := fun d' p' => if d' = d ∧ p' = p then some v else f d' p'

theorem keylit (d p : Nat) : WideAt.IsKeyLit (key d p) := trivial
theorem zero3 (w : World) : (zeroValue 3).run Tryz.prog w = .ok (.int .i64 0) w := by kernel_rfl

theorem owns_size {w : World} {M n : Nat} {D : DataW Unit} (h : w.ownsMap Tryz.prog 410 (plainElem Tryz.prog 3) M n D) : w.ownsMap Tryz.prog 410 (plainElem Tryz.prog 3) M (Maps.size D) D := by
  obtain ⟨es, clock, h1, h2, h3, rfl⟩ := h
  exact ⟨es, clock, h1, h2, by simp [Maps.size, length_sorted], rfl⟩

theorem MapIs.look {w : World} {M c : Nat} {f : Nat → Nat → Option Nat} (h : MapIs w M c f) (d p : Nat) (hd : d ≤ 1099511627776) (hp : p ≤ 1099511627776) :
    ∃ x : Int, (Instr.lookup 314 (.map (some M)) (.agg #[.int .i64 (d : Int), .int .i64 (p : Int)]) true).run Tryz.prog w = .ok (.tuple #[.int .i64 x, .bool (f d p).isSome]) w ∧ ∀ v, f d p = some v → x = (v : Int) := by
  obtain ⟨D, hown, hsz, hhas, hat⟩ := h
  obtain ⟨v, ps, hrun, hv⟩ := hown.look_ok spotK Tryz.underlying314 (zero3 w) (plainElem_int Tryz.underlying3 (by decide)) (keyOf_spot d p hd hp)
  obtain ⟨x, rfl, hx, _⟩ := plainElem_int_inv Tryz.underlying3 hv
  rw [hhas d p hd hp] at hrun
  refine ⟨x, hrun, fun v hv => ?_⟩
  have h2 := hat d p hd hp v hv
  simp only [Prod.mk.injEq] at hx
  rw [h2] at hx
  simpa using hx.1.symm

theorem MapIs.store {w : World} {M c : Nat} {f : Nat → Nat → Option Nat} (h : MapIs w M c f) (hc : c ≤ 1000000000) (d p v : Nat) (hd : d ≤ 1099511627776) (hp : p ≤ 1099511627776) (hv : v ≤ 1099511627776) :
    ∃ w', (Instr.mapUpdate 314 (.map (some M)) (.agg #[.int .i64 (d : Int), .int .i64 (p : Int)]) (.int .i64 (v : Int))).run Tryz.prog w = .ok () w' ∧ MapIs w' M (if (f d p).isSome then c else c + 1) (putAt f d p v) ∧ Kp [M] w w' := by
  obtain ⟨D, hown, hsz, hhas, hat⟩ := h
  obtain ⟨w', hrun, h1, h2⟩ := hown.update spotK Tryz.underlying314 (by unfold maxLen; omega) (keyOf_spot d p hd hp) (plainElem_int Tryz.underlying3 (wf64 v hv))
  refine ⟨w', hrun, ⟨D.put (key d p) (.lit (.int .i64 (v : Int))), ?_, ?_, ?_, ?_⟩, (Kp.refl [M] w).grown h2 (fun k hk => by simp at hk; left; simp [hk])⟩
  · have := owns_size h1
    rw [Maps.size_put (hown.tidy spotK), hhas d p hd hp, hsz] at this
    exact this
  · rw [Maps.size_put (hown.tidy spotK), hhas d p hd hp, hsz]
  · intro d' p' hd' hp'
    unfold putAt
    by_cases e : d' = d ∧ p' = p
    · obtain ⟨rfl, rfl⟩ := e
      rw [Maps.has_put_same hown.isMap (keylit _ _)]
      simp
    · rw [Maps.has_put_other (fun h => e (key_inj hd' hp' hd hp h)), hhas d' p' hd' hp', if_neg e]
  · intro d' p' hd' hp' x hx
    unfold putAt at hx
    by_cases e : d' = d ∧ p' = p
    · obtain ⟨rfl, rfl⟩ := e
      rw [if_pos ⟨rfl, rfl⟩] at hx
      simp at hx
      subst hx
      exact Maps.atKey_put_same hown.isMap (keylit _ _) _ _
    · rw [if_neg e] at hx
      rw [Maps.atKey_put_other (fun h => e (key_inj hd' hp' hd hp h))]
      exact hat d' p' hd' hp' x hx
theorem MapIs.len {w : World} {M c : Nat} {f : Nat → Nat → Option Nat} (h : MapIs w M c f) (ty : TypeId) : (Builtin.len_ #[314] ty #[.map (some M)]).run Tryz.prog w = .ok (.int .i64 (c : Int)) w := by
  obtain ⟨D, hown, hsz, hhas, hat⟩ := h
  rw [hown.len Tryz.underlying314 ty, hsz]
end Go.Proofs.YtpdoacfiiledcaaGreatDoor.Pak
