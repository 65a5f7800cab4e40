import Derived.Test.YtnffagpdnklnkaaGreatDoorV22
import Derived.Test.YtnffagpdnklnkaaGreatDoorV27
import Derived.Shelf.Sort.Plain
import Derived.Shelf.Slices.In.SortNone
import Derived.Ground.NamesProg
set_option linter.unusedVariables false
set_option linter.unusedSimpArgs false
set_option maxRecDepth 8000
namespace Go.Proofs
open Go.Shelf
def Tryz.lays189_ren : Go.Shelf.Ren := ⟨fun | 189 => 152 | 125 => 135 | 257 => 190 | 128 => 178 | 129 => 137 | 294 => 206 | 295 => 207 | 296 => 208 | 297 => 209 | 298 => 210 | 299 => 211 | 216 => 212 | 300 => 213 | 301 => 214 | 328 => 226 | 329 => 200 | 330 => 201 | 331 => 227 | 332 => 228 | 215 => 194 | 343 => 233 | n => n, fun | 28 => 59 | 3 => 3 | 46 => 206 | 0 => 0 | 51 => 214 | 53 => 78 | 4 => 4 | 183 => 245 | 182 => 244 | 131 => 151 | 5 => 5 | 9 => 9 | 218 => 271 | 222 => 275 | 228 => 292 | 229 => 293 | n => n, fun | n => n⟩
theorem Tryz.lays189 : Go.Proofs.Lays.n189 Tryz.prog Tryz.lays189_ren := {
  mixed := by kernel_rfl
  f125 := Tryz.func135.trans (congrArg some (by kernel_rfl))
  f128 := Tryz.func178.trans (congrArg some (by kernel_rfl))
  f129 := Tryz.func137.trans (congrArg some (by kernel_rfl))
  f189 := Tryz.func152.trans (congrArg some (by kernel_rfl))
  f215 := Tryz.func194.trans (congrArg some (by kernel_rfl))
  f216 := Tryz.func212.trans (congrArg some (by kernel_rfl))
  f257 := Tryz.func190.trans (congrArg some (by kernel_rfl))
  f294 := Tryz.func206.trans (congrArg some (by kernel_rfl))
  f295 := Tryz.func207.trans (congrArg some (by kernel_rfl))
  f296 := Tryz.func208.trans (congrArg some (by kernel_rfl))
  f297 := Tryz.func209.trans (congrArg some (by kernel_rfl))
  f298 := Tryz.func210.trans (congrArg some (by kernel_rfl))
  f299 := Tryz.func211.trans (congrArg some (by kernel_rfl))
  f300 := Tryz.func213.trans (congrArg some (by kernel_rfl))
  f301 := Tryz.func214.trans (congrArg some (by kernel_rfl))
  f328 := Tryz.func226.trans (congrArg some (by kernel_rfl))
  f329 := Tryz.func200.trans (congrArg some (by kernel_rfl))
  f330 := Tryz.func201.trans (congrArg some (by kernel_rfl))
  f331 := Tryz.func227.trans (congrArg some (by kernel_rfl))
  f332 := Tryz.func228.trans (congrArg some (by kernel_rfl))
  f343 := Tryz.func233.trans (congrArg some (by kernel_rfl))
  t0 := Tryz.underlying0
  a0 := Tryz.isAgg0
  z0 := Tryz.sizeOf0
  v0 := Tryz.zeroValue0
  t3 := Tryz.underlying3
  a3 := Tryz.isAgg3
  z3 := Tryz.sizeOf3
  v3 := Tryz.zeroValue3
  t4 := Tryz.underlying4
  a4 := Tryz.isAgg4
  z4 := Tryz.sizeOf4
  v4 := Tryz.zeroValue4
  t5 := Tryz.underlying5
  a5 := Tryz.isAgg5
  z5 := Tryz.sizeOf5
  v5 := Tryz.zeroValue5
  t9 := Tryz.underlying9
  a9 := Tryz.isAgg9
  z9 := Tryz.sizeOf9
  v9 := Tryz.zeroValue9
  t28 := Tryz.underlying59
  a28 := Tryz.isAgg59
  z28 := Tryz.sizeOf59
  v28 := Tryz.zeroValue59
  t46 := Tryz.underlying206
  a46 := Tryz.isAgg206
  z46 := Tryz.sizeOf206
  v46 := Tryz.zeroValue206
  t51 := Tryz.underlying214
  a51 := Tryz.isAgg214
  z51 := Tryz.sizeOf214
  v51 := Tryz.zeroValue214
  t53 := Tryz.underlying78
  a53 := Tryz.isAgg78
  z53 := Tryz.sizeOf78
  v53 := Tryz.zeroValue78
  t131 := Tryz.underlying151
  a131 := Tryz.isAgg151
  z131 := Tryz.sizeOf151
  v131 := Tryz.zeroValue151
  t182 := Tryz.underlying244
  a182 := Tryz.isAgg244
  z182 := Tryz.sizeOf244
  v182 := Tryz.zeroValue244
  t183 := Tryz.underlying245
  a183 := Tryz.isAgg245
  z183 := Tryz.sizeOf245
  v183 := Tryz.zeroValue245
  t218 := Tryz.underlying271
  a218 := Tryz.isAgg271
  z218 := Tryz.sizeOf271
  v218 := Tryz.zeroValue271
  t222 := Tryz.underlying275
  a222 := Tryz.isAgg275
  z222 := Tryz.sizeOf275
  v222 := Tryz.zeroValue275
  t228 := Tryz.underlying292
  a228 := Tryz.isAgg292
  z228 := Tryz.sizeOf292
  v228 := Tryz.zeroValue292
  t229 := Tryz.underlying293
  a229 := Tryz.isAgg293
  z229 := Tryz.sizeOf293
  v229 := Tryz.zeroValue293 }

open Go.RowKit Go.Sort in
theorem Tryz.slices_Sort_int (blk off cap : Nat) (zs : List Int) (w : World) (hH : Holds (Value.int .i64) w blk off zs.toArray) (hblk : blk < w.heap.size) (hsz : zs.length < 4611686018427387904) :
    Calls Tryz.prog 152 #[.slice (some ⟨blk, off, none⟩) zs.length cap] w fun e w' =>
      e = .returned (.tuple #[]) ∧ ∃ n os, w' = grow (putRow (Value.int .i64) (Sort.ahead w n) blk off (zs.mergeSort fun x y => decide (x ≤ y)).toArray) os := Any.slices_Sort_int Tryz.lays189 blk off cap zs w hH hblk hsz
open Go.RowKit in
theorem Tryz.slices_Sort_int_none (p : Option Addr) (cap : Nat) (w : World) :
    Calls Tryz.prog 152 #[.slice p 0 cap] w fun e w' => e = .returned (.tuple #[]) ∧ w' = w := Any.slices_Sort_int_none Tryz.lays189 p cap w
end Go.Proofs

namespace Go.Proofs.YtnffagpdnklnkaaGreatDoor.Pak
open Go.RowKit Go.Proofs.YtnffagpdnklnkaaGreatDoor Go.Proofs.YtnffagpdnklnkaaGreatDoor.Spl SiftM Go.Maps
theorem owns_ne_objD {w : World} {base size n : Nat} {e : TypeId} {v : Value} {xs : List Value} {g : Nat} {es : Array MapEntry} {ck : Nat} (h : w.ownsRow base e size v n xs) (hg : w.heap[g]? = some (.map es ck)) : v.ownBlock ≠ some g := by
  intro hv
  rcases h.2 with ⟨rfl, _⟩ | ⟨g', cap, cur, rfl, _, hgg, _⟩
  · simp [Value.ownBlock] at hv
  · have : g' = g := by simpa [Value.ownBlock] using hv
    subst this
    rw [hg] at hgg
    simp at hgg
def ptL (ps : List Nat) : List Value := ps.map fun p => Value.pointer (some ⟨p, 0, none⟩)
theorem zero66 (w : World) : (zeroValue 66).run Tryz.prog w = .ok (.slice none 0 0) w := by kernel_rfl
/-- Block M is the map of the parts by their classes: f k is class k's list of parts, vf k the list that holds it. -/
structure CmIs (w : World) (B M n : Nat) (f : Nat → List Nat) (vf : Nat → Value) : Prop where
  map : ∃ D : DataW Value, w.ownsMap Tryz.prog 3 anyR M n D ∧ (∀ k, k ≤ 1000 → Maps.has D (idK k) = decide (f k ≠ [])) ∧ (∀ k, k ≤ 1000 → f k ≠ [] → ∀ z, D.atKey (idK k) z = .held (vf k)) ∧
    ∀ z : Int, Maps.has D (.int .i64 z) = true → ∃ k : Nat, z = (k : Int) ∧ k ≤ 1000
  row : ∀ k, w.ownsRow B 76 1 (vf k) (f k).length (ptL (f k))
  apart : ∀ k l, k ≠ l → ∀ g, (vf k).ownBlock = some g → (vf l).ownBlock ≠ some g
theorem CmIs.block {w : World} {B M n : Nat} {f : Nat → List Nat} {vf : Nat → Value} (h : CmIs w B M n f vf) : ∃ es clock, w.heap[M]? = some (.map es clock) := by
  obtain ⟨D, ⟨es, clock, h1, _⟩, _⟩ := h.map; exact ⟨es, clock, h1⟩
theorem CmIs.kp {S : List Nat} {w w' : World} {B M n : Nat} {f : Nat → List Nat} {vf : Nat → Value} (h : CmIs w B M n f vf) (k : Kp S w w') (hM : M ∉ S) (hS : ∀ k g, (vf k).ownBlock = some g → g ∉ S) : CmIs w' B M n f vf := by
  obtain ⟨D, ⟨es, clock, h1, h2⟩, h3⟩ := h.map
  exact ⟨⟨D, ⟨es, clock, k.heap h1 hM, h2⟩, h3⟩, fun j => k.owns (h.row j) (hS j), h.apart⟩
theorem cmIs_made (w : World) (B : Nat) : CmIs (w.alloc (.map #[] 0)) B w.heap.size 0 (fun _ => []) (fun _ => .slice none 0 0) := by
  refine ⟨⟨.map [], World.ownsMap_made _ _ _ _, fun k _ => rfl, fun k _ h => absurd rfl h, fun z hz => ?_⟩, fun k => World.ownsRow_nil _ _ _ _, fun k l _ g hg => by simp [Value.ownBlock] at hg⟩
  simp [Maps.has, DataW.atKey] at hz
/-- classes[k]. -/
theorem CmIs.look {w : World} {B M n : Nat} {f : Nat → List Nat} {vf : Nat → Value} (h : CmIs w B M n f vf) (hnil : ∀ k, f k = [] → vf k = .slice none 0 0) (k : Nat) (hk : k ≤ 1000) :
    (Instr.lookup 175 (.map (some M)) (.int .i64 (k : Int)) false).run Tryz.prog w = .ok (vf k) w := by
  obtain ⟨D, hown, hhas, hat, hkey⟩ := h.map
  have hz := zero66 w
  obtain ⟨es, clock, hb, Ft, hs, hD⟩ := hown
  rcases Maps.fit_look false idsK Tryz.underlying175 hz hb Ft (keyOf_id k (by omega)) with ⟨hrun, _, hat0⟩ | ⟨e0, y, _, _, hrun, hRv, hat1, _⟩
  · have hno : Maps.has D (idK k) = false := by rw [hD]; exact Maps.has_false_of_atKey hat0
    rw [hhas k hk] at hno
    have he : f k = [] := by simpa using hno
    rw [hrun, hnil k he]
    rfl
  · have hyes : Maps.has D (idK k) = true := by rw [hD]; exact Maps.has_true_of_atKey hat1
    rw [hhas k hk] at hyes
    have hne : f k ≠ [] := of_decide_eq_true hyes
    have h1 := hat k hk hne (.held (vf k))
    rw [hD, hat1] at h1
    unfold anyR at hRv
    have h2 := Option.some.inj hRv
    have h3 : y.1 = .held e0.val := by rw [← h2]
    rw [h3] at h1
    have h4 : e0.val = vf k := by simpa using h1
    rw [hrun, h4]
    rfl
def putF {α : Type} (f : Nat → α) (k : Nat) (x : α) : Nat → α := fun j => if j = k then x else f j
/-- classes[k] = v, where v holds one part more. -/
theorem CmIs.store {w : World} {B M n : Nat} {f : Nat → List Nat} {vf : Nat → Value} (h : CmIs w B M n f vf) (hn : n ≤ 1000000000) (k p : Nat) (hk : k ≤ 1000) {w1 : World} {v : Value} {S : List Nat} (hv : w1.ownsRow B 76 1 v ((f k).length + 1) (ptL (f k ++ [p])))
    (kp : Kp S w w1) (hS : ∀ x ∈ S, (vf k).ownBlock = some x) (hvb : v.ownBlock = (vf k).ownBlock ∨ ∃ g, v.ownBlock = some g ∧ w.heap.size ≤ g) :
    ∃ w', (Instr.mapUpdate 175 (.map (some M)) (.int .i64 (k : Int)) v).run Tryz.prog w1 = .ok () w' ∧ CmIs w' B M (n + 1) (putF f k (f k ++ [p])) (putF vf k v) ∧ Kp [M] w1 w' := by
  obtain ⟨es0, ck0, hb0⟩ := h.block
  have hMS : M ∉ S := fun hx => by
    have h1 := hS M hx
    exact owns_ne_objD (h.row k) hb0 h1
  obtain ⟨D, ⟨es, clock, h1, h2⟩, hhas, hat, hkey⟩ := h.map
  have hown : w1.ownsMap Tryz.prog 3 anyR M n D := ⟨es, clock, kp.heap h1 hMS, h2⟩
  obtain ⟨w', hrun, h3, h4⟩ := hown.update idsK Tryz.underlying175 (by unfold maxLen; omega) (keyOf_id k (by omega)) (show anyR v = some (.held v, []) from rfl)
  have kM : Kp [M] w1 w' := (Kp.refl [M] w1).grown h4 (fun k hk => by simp at hk; left; simp [hk])
  refine ⟨w', hrun, ⟨⟨D.put (idK k) (.held v), h3, ?_, ?_, ?_⟩, ?_, ?_⟩, kM⟩
  · intro j hj
    unfold putF
    by_cases e : j = k
    · subst e
      rw [Maps.has_put_same hown.isMap (idK_lit _)]
      simp
    · rw [Maps.has_put_other (fun h => e (idK_inj h)), hhas j hj, if_neg e]
  · intro j hj hne z
    unfold putF at hne ⊢
    by_cases e : j = k
    · subst e
      rw [if_pos rfl]
      exact Maps.atKey_put_same hown.isMap (idK_lit _) _ _
    · rw [if_neg e] at hne ⊢
      rw [Maps.atKey_put_other (fun h => e (idK_inj h))]
      exact hat j hj hne z
  · intro z hz
    by_cases e : z = (k : Int)
    · exact ⟨k, e, hk⟩
    · rw [Maps.has_put_other (fun h => e (by unfold idK at h; simpa using h))] at hz
      exact hkey z hz
  · intro j
    unfold putF
    by_cases e : j = k
    · rw [if_pos e, if_pos e]
      have : (f k ++ [p]).length = (f k).length + 1 := by simp
      rw [this]
      refine kM.owns hv (fun g hg hx => ?_)
      simp at hx
      subst hx
      exact owns_ne_objD hv (kp.heap h1 hMS) hg
    · rw [if_neg e, if_neg e]
      have hj := kp.owns (h.row j) (fun g hg hx => h.apart k j (Ne.symm e) g (hS g hx) hg)
      refine kM.owns hj (fun g hg hx => ?_)
      simp at hx
      subst hx
      exact owns_ne_objD hj (kp.heap h1 hMS) hg
  · intro a b hab g hg
    unfold putF at hg ⊢
    have hnew : ∀ j g, (vf j).ownBlock = some g → g < w.heap.size := fun j g hg => ((h.row j).lt g hg).2
    by_cases ea : a = k
    · rw [if_pos ea] at hg
      rw [if_neg (fun e => hab (ea.trans e.symm))]
      intro hg2
      rcases hvb with e | ⟨g', e, hge⟩
      · rw [e] at hg
        exact h.apart k b (fun e => hab (ea.trans e)) g hg hg2
      · rw [e] at hg
        have := hnew b g hg2
        have : g' = g := by simpa using hg
        omega
    · rw [if_neg ea] at hg
      by_cases eb : b = k
      · rw [if_pos eb]
        intro hg2
        rcases hvb with e | ⟨g', e, hge⟩
        · rw [e] at hg2
          exact h.apart a k ea g hg hg2
        · rw [e] at hg2
          have := hnew a g hg
          have : g' = g := by simpa using hg2
          omega
      · rw [if_neg eb]
        exact h.apart a b hab g hg
end Go.Proofs.YtnffagpdnklnkaaGreatDoor.Pak
namespace Go.Proofs.YtnffagpdnklnkaaGreatDoor.Pak
open Go.RowKit Go.Proofs.YtnffagpdnklnkaaGreatDoor Go.Proofs.YtnffagpdnklnkaaGreatDoor.Spl SiftM
/-- A step of a commit. -/
inductive Stp where
  | wr (t : PPt)
  | sy (x : List UInt8)
  | dr (n nx : Nat) (Ps : List PPt)
  | sd
  | co (n : Nat)
  | de (x : List UInt8)
def runS (A : Dk) : Stp → Dk
  | .wr t => updD A (segN t.num) (some (fileT t.T, false))
  | .sy x => updD A x ((A x).map fun p => (p.1, true))
  | .dr n nx Ps => updD A tN (some (comB n nx Ps, false))
  | .sd => updD A tN ((A tN).map fun p => (p.1, true))
  | .co n => updD (updD A tN none) (comN n) (A tN)
  | .de x => updD A x none
def bx (w : World) (b : Nat) (v : Value) : Prop := w.cell? ⟨b, 0, none⟩ = some v
def pt (b : Nat) : Value := .pointer (some ⟨b, 0, none⟩)
/-- A block that holds one value, of a type. -/
def bh (w : World) (b : Nat) (t : TypeId) (v : Value) : Prop := w.heap[b]? = some (.cells #[v] t (0, 0))
theorem bh_bx {w : World} {b : Nat} {t : TypeId} {v : Value} (h : bh w b t v) : bx w b v := by
  unfold bh at h
  unfold bx
  simp [World.cell?, h]
/-- A step's function value, and what it holds. -/
def StepIs (w : World) (lo X : Nat) (val : Value) : Stp → Prop
  | .wr t => ∃ x n p, val = .func (.func 39) #[] #[pt x, pt n, pt p] ∧ lo ≤ x ∧ lo ≤ n ∧ lo ≤ p ∧ bh w x 28 (pt X) ∧ bh w n 9 (nmV (segN t.num)) ∧ bh w p 76 (pt t.p)
  | .sy y => ∃ x n, val = .func (.func 42) #[] #[pt x, pt n] ∧ lo ≤ x ∧ lo ≤ n ∧ bh w x 28 (pt X) ∧ bh w n 9 (nmV y) ∧ y.length ≤ 100
  | .dr n nx Ps => ∃ x c v, val = .func (.func 44) #[] #[pt x, pt c] ∧ lo ≤ x ∧ lo ≤ c ∧ bh w x 28 (pt X) ∧ w.heap[c]? = some (.cells #[.int .i64 (n : Int), .int .i64 (nx : Int), v] 94 (0, 0)) ∧ w.ownsRow lo 143 3 v Ps.length (tsV Ps)
  | .sd => ∃ x, val = .func (.func 46) #[] #[pt x] ∧ lo ≤ x ∧ bh w x 28 (pt X)
  | .co n => ∃ x c u v, val = .func (.func 47) #[] #[pt x, pt c] ∧ lo ≤ x ∧ lo ≤ c ∧ bh w x 28 (pt X) ∧ w.heap[c]? = some (.cells #[.int .i64 (n : Int), u, v] 94 (0, 0))
  | .de y => ∃ x n, val = .func (.func 51) #[] #[pt x, pt n] ∧ lo ≤ x ∧ lo ≤ n ∧ bh w x 28 (pt X) ∧ bh w n 9 (nmV y) ∧ y.length ≤ 100
/-- Whatever keeps the blocks that hold no function. -/
theorem StepIs.keep {w w' : World} {lo X : Nat} {val : Value} {st : Stp} (h : StepIs w lo X val st) (k : ∀ b cs t, lo ≤ b → w.heap[b]? = some (.cells cs t (0, 0)) → t ≠ 1 → w'.heap[b]? = some (.cells cs t (0, 0))) (ko : ∀ v n xs, w.ownsRow lo 143 3 v n xs → w'.ownsRow lo 143 3 v n xs) : StepIs w' lo X val st := by
  have kb : ∀ b t v, lo ≤ b → t ≠ 1 → bh w b t v → bh w' b t v := fun b t v hb ht h => k b _ _ hb h ht
  cases st with
  | wr t => obtain ⟨x, n, p, e, l1, l2, l3, h1, h2, h3⟩ := h; exact ⟨x, n, p, e, l1, l2, l3, kb _ _ _ l1 (by decide) h1, kb _ _ _ l2 (by decide) h2, kb _ _ _ l3 (by decide) h3⟩
  | sy y => obtain ⟨x, n, e, l1, l2, h1, h2, h3⟩ := h; exact ⟨x, n, e, l1, l2, kb _ _ _ l1 (by decide) h1, kb _ _ _ l2 (by decide) h2, h3⟩
  | dr n nx Ps => obtain ⟨x, c, v, e, l1, l2, h1, h2, h3⟩ := h; exact ⟨x, c, v, e, l1, l2, kb _ _ _ l1 (by decide) h1, k _ _ _ l2 h2 (by decide), ko _ _ _ h3⟩
  | sd => obtain ⟨x, e, l1, h1⟩ := h; exact ⟨x, e, l1, kb _ _ _ l1 (by decide) h1⟩
  | co n => obtain ⟨x, c, u, v, e, l1, l2, h1, h2⟩ := h; exact ⟨x, c, u, v, e, l1, l2, kb _ _ _ l1 (by decide) h1, k _ _ _ l2 h2 (by decide)⟩
  | de y => obtain ⟨x, n, e, l1, l2, h1, h2, h3⟩ := h; exact ⟨x, n, e, l1, l2, kb _ _ _ l1 (by decide) h1, kb _ _ _ l2 (by decide) h2, h3⟩
theorem StepIs.kp {S : List Nat} {w w' : World} {lo X : Nat} {val : Value} {st : Stp} (h : StepIs w lo X val st) (k : Kp S w w') (hS : ∀ g ∈ S, g < lo) : StepIs w' lo X val st :=
  h.keep (fun b cs t hb h1 _ => k.heap h1 (fun hx => by have := hS b hx; omega)) (fun v n xs h1 => k.owns h1 (fun g hg hx => by have h2 := hS g hx; have h3 := (h1.lt g hg).1; omega))
/-- A list of function values turns, or grows. -/
theorem StepIs.grown {w w' : World} {lo X B n : Nat} {val v : Value} {st : Stp} {xs : List Value} (h : StepIs w lo X val st) (k : Kp v.ownBlock.toList w w') (hv : w.ownsRow B 1 1 v n xs) : StepIs w' lo X val st :=
  h.keep (fun b cs t hb h1 ht => k.heap h1 (fun hx => owns_ne_type hv h1 (Ne.symm ht) (Option.mem_toList.1 hx))) (fun u m ys h1 => k.owns h1 (fun g hg hx => owns_disj hv h1 (by decide) g (Option.mem_toList.1 hx) hg))
/-- What a step on a disk gives. -/
structure Ran (w w' : World) (B d M : Nat) (F : List Fl) (A' : Dk) : Prop where
  ex : ∃ F', DiskIs w' B d M F' ∧ absF F' = A' ∧ F'.length ≤ F.length + 1 ∧ ∀ f ∈ F', ∀ g, f.v.ownBlock = some g → (∃ f0 ∈ F, f0.v = f.v) ∨ w.heap.size ≤ g
theorem fileT_le (T : List Tx) (h : Fine T) : (fileT T).length ≤ 2000000 := by
  have h1 := postT_part T h (termsOf T).length
  rw [List.take_length] at h1
  have h2 := riseB_len (T.map Prod.fst) 0
  have h3 := numB_len T.length
  have h4 := numB_len (termsOf T).length
  have h5 := h.len
  rw [List.length_map] at h2
  unfold fileT
  rw [List.length_append, sumB_len, body_eq]
  simp only [List.length_cons, List.length_append]
  omega
/-- A file more, or in another's place. -/
theorem DiskIs.put {w w' : World} {B d M : Nat} {F : List Fl} {f : Fl} (h : DiskIs w B d M F) (k : Kp [M] w w') (hm : DkM w' M (lack F f.nm ++ [f])) (hv : w'.ownsRow B 5 1 f.v f.bs.length (byV f.bs)) (hb : f.bs.length ≤ 100000000) (hF : F.length < 10000000) : DiskIs w' B d M (lack F f.nm ++ [f]) := by
  obtain ⟨es, ck, em⟩ := h.map.block
  have hl := lack_len F f.nm h.map.nodup
  refine ⟨k.heap h.blk (by simpa using cells_mapD h.blk em), hm, fun g hg => ?_, ?_, fun g hg => ?_⟩
  · rcases List.mem_append.1 hg with hg | hg
    · have hgF := (List.mem_filter.1 hg).1
      exact k.owns (h.each g hgF) (fun b hb hx => by simp at hx; subst hx; exact owns_ne_objD (h.each g hgF) em hb)
    · obtain rfl := List.mem_singleton.1 hg
      exact hv
  · rw [List.length_append, List.length_singleton]
    split at hl <;> omega
  · rcases List.mem_append.1 hg with hg | hg
    · exact h.small g (List.mem_filter.1 hg).1
    · obtain rfl := List.mem_singleton.1 hg
      exact hb
theorem DiskIs.cut {w w' : World} {B d M : Nat} {F : List Fl} {x : List UInt8} (h : DiskIs w B d M F) (k : Kp [M] w w') (hm : DkM w' M (lack F x)) : DiskIs w' B d M (lack F x) := by
  obtain ⟨es, ck, em⟩ := h.map.block
  have hl := lack_len F x h.map.nodup
  refine ⟨k.heap h.blk (by simpa using cells_mapD h.blk em), hm, fun g hg => ?_, ?_, fun g hg => h.small g (List.mem_filter.1 hg).1⟩
  · have hgF := (List.mem_filter.1 hg).1
    exact k.owns (h.each g hgF) (fun b hb hx => by simp at hx; subst hx; exact owns_ne_objD (h.each g hgF) em hb)
  · have := h.few
    split at hl <;> omega
theorem lack_le (F : List Fl) (x : List UInt8) : (lack F x).length ≤ F.length := List.length_filter_le _ _
theorem Ran.put {w w' : World} {B d M : Nat} {F : List Fl} {f : Fl} (h : DiskIs w B d M F) (k : Kp [M] w w') (hm : DkM w' M (lack F f.nm ++ [f])) (hv : w'.ownsRow B 5 1 f.v f.bs.length (byV f.bs)) (hb : f.bs.length ≤ 100000000) (hF : F.length < 10000000) (hg : (∃ f0 ∈ F, f0.v = f.v) ∨ ∀ g, f.v.ownBlock = some g → w.heap.size ≤ g) : Ran w w' B d M F (updD (absF F) f.nm (some (f.bs, f.sy))) := by
  refine ⟨_, h.put k hm hv hb hF, absF_put F f, by have := lack_le F f.nm; simp; omega, fun e he g hg2 => ?_⟩
  rcases List.mem_append.1 he with he | he
  · exact .inl ⟨e, (List.mem_filter.1 he).1, rfl⟩
  · obtain rfl := List.mem_singleton.1 he
    rcases hg with hg | hg
    · exact .inl hg
    · exact .inr (hg g hg2)
theorem Ran.cut {w w' : World} {B d M : Nat} {F : List Fl} {x : List UInt8} (h : DiskIs w B d M F) (k : Kp [M] w w') (hm : DkM w' M (lack F x)) : Ran w w' B d M F (updD (absF F) x none) :=
  ⟨_, h.cut k hm, absF_lack F x, by have := lack_le F x; omega, fun e he g hg2 => .inl ⟨e, (List.mem_filter.1 he).1, rfl⟩⟩
theorem ne_map {w : World} {M b j : Nat} {F : List Fl} {v : Value} (hD : DkM w M F) (h : w.cell? ⟨b, j, none⟩ = some v) : b ≠ M := fun e => by
  obtain ⟨es, ck, e2⟩ := hD.block
  subst e
  simp [World.cell?, e2] at h
set_option maxHeartbeats 1000000 in
/-- The first step of a segment's file. -/
theorem step1_any (B d M X x n p : Nat) (F : List Fl) (t : PPt) (w : World) (hB : B ≤ w.heap.size) (hx : bx w x (pt X)) (hn : bx w n (nmV (segN t.num))) (hp : bx w p (pt t.p)) (hX : w.cell? ⟨X, 2, none⟩ = some (pt d)) (hD : DiskIs w B d M F) (hpt : PartIs w t) (hF : F.length < 10000000) :
    Calls Tryz.prog 39 #[pt x, pt n, pt p] w fun e w' => e = .returned (.tuple #[]) ∧ Ran w w' B d M F (updD (absF F) (segN t.num) (some (fileT t.T, false))) ∧ Kp [M] w w' := by
  unfold bx at hx hn hp
  unfold pt at hx hp
  unfold pt at hX ⊢
  obtain ⟨p0, p1⟩ := part_two hpt
  have hsf := segFile_any t.lo t.hi t.q t.num t.M t.T t.iv t.tv w.drew (hpt.seg.kp ((Kp.refl [] w).drewN 1) (by simp)) hpt.fine
  obtain ⟨nb, hnb⟩ : ∃ nb : ByteArray, nmV (segN t.num) = .string nb := ⟨_, rfl⟩
  rw [hnb] at hn
  have hlen : (segN t.num).length ≤ 100 := segN_len t.num (by have := hpt.nlt; omega)
  have hfl : (fileT t.T).length ≤ 100000000 := Nat.le_trans (fileT_le t.T hpt.fine) (by omega)
  have HD := hide hD
  have kd : Kp [] w w.drew := (Kp.refl _ _).drewN 1
  have mixed : Tryz.prog.follows .mixedOrders = true := by kernel_rfl
  have hdM : M < w.heap.size := hD.map.lt
  have hne : ∀ b v, w.cell? ⟨b, 0, none⟩ = some v → b ≠ M := fun b v h e => by
    obtain ⟨es, ck, e2⟩ := hD.map.block
    subst e
    simp [World.cell?, e2] at h
  have n1 := hne _ _ hx
  have n2 := hne _ _ hn
  have n3 := hne _ _ hp
  have n4 := hne _ _ p0
  have n5 : X ≠ M := fun e => by
    obtain ⟨es, ck, e2⟩ := hD.map.block
    subst e
    simp [World.cell?, e2] at hX
  clear hD hpt hne
  go_enter Tryz.func39, Tryz.ntmps39
  refine region_E mixed (fun w' => w'.cell? ⟨x, 0, none⟩ = some (.pointer (some ⟨X, 0, none⟩)) ∧ w'.cell? ⟨X, 2, none⟩ = some (.pointer (some ⟨d, 0, none⟩)) ∧ w'.cell? ⟨n, 0, none⟩ = some (.string nb) ∧ w'.cell? ⟨p, 0, none⟩ = some (.pointer (some ⟨t.p, 0, none⟩)) ∧ w'.cell? ⟨t.p, 0, none⟩ = some (.pointer (some ⟨t.q, 0, none⟩))) 99 ?_
  have hS0 : w.drew.cell? ⟨x, 0, none⟩ = some (.pointer (some ⟨X, 0, none⟩)) ∧ w.drew.cell? ⟨X, 2, none⟩ = some (.pointer (some ⟨d, 0, none⟩)) ∧ w.drew.cell? ⟨n, 0, none⟩ = some (.string nb) ∧ w.drew.cell? ⟨p, 0, none⟩ = some (.pointer (some ⟨t.p, 0, none⟩)) ∧ w.drew.cell? ⟨t.p, 0, none⟩ = some (.pointer (some ⟨t.q, 0, none⟩)) := ⟨hx, hX, hn, hp, p0⟩
  refine anyE_tk 0 3 (.pointer (some ⟨X, 0, none⟩)) rfl (Or.inl ⟨by rfl, fun w' hS => by obtain ⟨s1, s2, s3, s4, s5⟩ := hS; go_simp⟩) hS0 ?_
  try simp only [Act.put, List.setIfInBounds_toArray, List.set_cons_zero, List.set_cons_succ]
  refine anyE_tk 1 4 (.pointer (some ⟨X, 0, none⟩)) rfl (Or.inl ⟨by rfl, fun w' hS => by obtain ⟨s1, s2, s3, s4, s5⟩ := hS; go_simp⟩) hS0 ?_
  try simp only [Act.put, List.setIfInBounds_toArray, List.set_cons_zero, List.set_cons_succ]
  refine anyE_tk 2 5 (.pointer (some ⟨X, 2, none⟩)) rfl (Or.inl ⟨by rfl, fun w' hS => by obtain ⟨s1, s2, s3, s4, s5⟩ := hS; go_simp⟩) hS0 ?_
  try simp only [Act.put, List.setIfInBounds_toArray, List.set_cons_zero, List.set_cons_succ]
  refine anyE_tk 3 6 (.pointer (some ⟨d, 0, none⟩)) rfl (Or.inl ⟨by rfl, fun w' hS => by obtain ⟨s1, s2, s3, s4, s5⟩ := hS; go_simp⟩) hS0 ?_
  try simp only [Act.put, List.setIfInBounds_toArray, List.set_cons_zero, List.set_cons_succ]
  refine anyE_tk 4 7 (.string nb) rfl (Or.inl ⟨by rfl, fun w' hS => by obtain ⟨s1, s2, s3, s4, s5⟩ := hS; go_simp⟩) hS0 ?_
  try simp only [Act.put, List.setIfInBounds_toArray, List.set_cons_zero, List.set_cons_succ]
  refine anyE_tk 5 8 (.pointer (some ⟨t.p, 0, none⟩)) rfl (Or.inl ⟨by rfl, fun w' hS => by obtain ⟨s1, s2, s3, s4, s5⟩ := hS; go_simp⟩) hS0 ?_
  try simp only [Act.put, List.setIfInBounds_toArray, List.set_cons_zero, List.set_cons_succ]
  refine anyE_tk 6 9 (.pointer (some ⟨t.p, 0, none⟩)) rfl (Or.inl ⟨by rfl, fun w' hS => by obtain ⟨s1, s2, s3, s4, s5⟩ := hS; go_simp⟩) hS0 ?_
  try simp only [Act.put, List.setIfInBounds_toArray, List.set_cons_zero, List.set_cons_succ]
  refine anyE_tk 7 10 (.pointer (some ⟨t.p, 0, none⟩)) rfl (Or.inl ⟨by rfl, fun w' hS => by obtain ⟨s1, s2, s3, s4, s5⟩ := hS; go_simp⟩) hS0 ?_
  try simp only [Act.put, List.setIfInBounds_toArray, List.set_cons_zero, List.set_cons_succ]
  refine anyE_tk 8 11 (.pointer (some ⟨t.q, 0, none⟩)) rfl (Or.inl ⟨by rfl, fun w' hS => by obtain ⟨s1, s2, s3, s4, s5⟩ := hS; go_simp⟩) hS0 ?_
  try simp only [Act.put, List.setIfInBounds_toArray, List.set_cons_zero, List.set_cons_succ]
  refine anyE_call (i := 9) (o := { dst := some 12, op := _, type := _, pos := _, after := _, guard := _ }) (by kernel_rfl) rfl rfl (by go_simp) hsf ?_
  rintro e w1 ⟨fv, rfl, hfv, k1⟩
  have k01 := kd.next k1
  have hS1 : w1.cell? ⟨x, 0, none⟩ = some (.pointer (some ⟨X, 0, none⟩)) ∧ w1.cell? ⟨X, 2, none⟩ = some (.pointer (some ⟨d, 0, none⟩)) ∧ w1.cell? ⟨n, 0, none⟩ = some (.string nb) ∧ w1.cell? ⟨p, 0, none⟩ = some (.pointer (some ⟨t.p, 0, none⟩)) ∧ w1.cell? ⟨t.p, 0, none⟩ = some (.pointer (some ⟨t.q, 0, none⟩)) := ⟨k01.cellv hx (by simp), k01.cellv hX (by simp), k01.cellv hn (by simp), k01.cellv hp (by simp), k01.cellv p0 (by simp)⟩
  refine ⟨_, rfl, .inr hS1, ?_⟩
  try simp only [Act.put, List.setIfInBounds_toArray, List.set_cons_zero, List.set_cons_succ]
  have hD1 : DiskIs w1 B d M F := HD.out.kp k01 (by simp) (by simp) (by simp)
  have hdw := dwrite_any B d M F (segN t.num) (fileT t.T) fv w1 hD1 hlen (ownsRow_base_a hfv hB) hfl
  rw [hnb] at hdw
  refine anyE_call (i := 10) (o := { dst := some 13, op := _, type := _, pos := _, after := _, guard := _ }) (by kernel_rfl) rfl rfl (by go_simp) hdw ?_
  rintro e w2 ⟨rfl, v2, hv2, hm2, k2⟩
  have hS2 : w2.cell? ⟨x, 0, none⟩ = some (.pointer (some ⟨X, 0, none⟩)) ∧ w2.cell? ⟨X, 2, none⟩ = some (.pointer (some ⟨d, 0, none⟩)) ∧ w2.cell? ⟨n, 0, none⟩ = some (.string nb) ∧ w2.cell? ⟨p, 0, none⟩ = some (.pointer (some ⟨t.p, 0, none⟩)) ∧ w2.cell? ⟨t.p, 0, none⟩ = some (.pointer (some ⟨t.q, 0, none⟩)) := ⟨k2.cellv hS1.1 (by simpa using n1), k2.cellv hS1.2.1 (by simpa using n5), k2.cellv hS1.2.2.1 (by simpa using n2), k2.cellv hS1.2.2.2.1 (by simpa using n3), k2.cellv hS1.2.2.2.2 (by simpa using n4)⟩
  refine ⟨_, rfl, .inr hS2, ?_⟩
  try simp only [Act.put, List.setIfInBounds_toArray, List.set_cons_zero, List.set_cons_succ]
  refine anyE_done (by kernel_rfl) ?_ _
  have k02 : Kp [M] w w2 := (k01.mono (by simp)).next k2
  have hz1 := k01.size
  have hran := Ran.put (f := ⟨segN t.num, fileT t.T, v2, false⟩) HD.out k02 hm2 (ownsRow_base_a hv2 (by omega)) hfl hF (.inr fun g hg => by have := (hv2.lt g hg).1; omega)
  go_end0
  exact ⟨rfl, hran, k02⟩
/-- A file is synced, by its name. -/
theorem sync_ran (B d M : Nat) (F : List Fl) (y : List UInt8) (w : World) (hD : DiskIs w B d M F) (hy : (absF F y).isSome = true) (hF : F.length < 10000000) :
    Calls Tryz.prog 43 #[.pointer (some ⟨d, 0, none⟩), nmV y] w fun e w' => e = .returned (.tuple #[]) ∧ Ran w w' B d M F (updD (absF F) y ((absF F y).map fun p => (p.1, true))) ∧ Kp [M] w w' := by
  obtain ⟨f, hf, e⟩ := List.mem_map.1 ((absF_is y).1 hy)
  subst e
  refine (dsync_any B d M F f w hD hf).mono ?_
  rintro e w' ⟨rfl, hm, k⟩
  obtain ⟨es, ck, em⟩ := hD.map.block
  refine ⟨rfl, ?_, k⟩
  have h1 := Ran.put (f := { f with sy := true }) hD k hm (k.owns (hD.each f hf) (fun b hb hx => by simp at hx; subst hx; exact owns_ne_objD (hD.each f hf) em hb)) (hD.small f hf) hF (.inl ⟨f, hf, rfl⟩)
  rw [absF_mem hD.map.nodup hf]
  exact h1
set_option maxHeartbeats 1000000 in
/-- The second step of a segment's file. -/
theorem step2_any (B d M X x n : Nat) (F : List Fl) (y : List UInt8) (w : World) (hx : bx w x (pt X)) (hn : bx w n (nmV y)) (hX : w.cell? ⟨X, 2, none⟩ = some (pt d)) (hD : DiskIs w B d M F) (hy : (absF F y).isSome = true) (hF : F.length < 10000000) :
    Calls Tryz.prog 42 #[pt x, pt n] w fun e w' => e = .returned (.tuple #[]) ∧ Ran w w' B d M F (updD (absF F) y ((absF F y).map fun p => (p.1, true))) ∧ Kp [M] w w' := by
  have hs := sync_ran B d M F y w hD hy hF
  have hsd := sync_ran B d M F y w.drew (hD.kp ((Kp.refl [] w).drewN 1) (by simp) (by simp) (by simp)) hy hF
  unfold bx at hx hn
  unfold pt at hx hX ⊢
  obtain ⟨nb, hnb⟩ : ∃ nb : ByteArray, nmV y = .string nb := ⟨_, rfl⟩
  rw [hnb] at hn hs hsd
  clear hD
  have kd : Kp [M] w w.drew := (Kp.refl _ _).drewN 1
  go_enter Tryz.func42, Tryz.ntmps42
  go_region_with (go_at_call 43; refine hsd.mono ?_; rintro e w1 ⟨rfl, hr, k⟩)
  all_goals
    go_end0
    exact ⟨rfl, ⟨hr.ex⟩, kd.next k⟩
set_option maxHeartbeats 1000000 in
/-- The draft is synced. -/
theorem step4_any (B d M X x : Nat) (F : List Fl) (w : World) (hx : bx w x (pt X)) (hX : w.cell? ⟨X, 2, none⟩ = some (pt d)) (hD : DiskIs w B d M F) (hy : (absF F tN).isSome = true) (hF : F.length < 10000000) :
    Calls Tryz.prog 46 #[pt x] w fun e w' => e = .returned (.tuple #[]) ∧ Ran w w' B d M F (updD (absF F) tN ((absF F tN).map fun p => (p.1, true))) ∧ Kp [M] w w' := by
  have hs : Calls Tryz.prog 43 #[.pointer (some ⟨d, 0, none⟩), .string ⟨#[116]⟩] w _ := sync_ran B d M F tN w hD hy hF
  unfold bx at hx
  unfold pt at hx hX ⊢
  clear hD
  go_enter Tryz.func46, Tryz.ntmps46
  go_wp2_with fail
  refine hs.mono ?_
  rintro e w1 ⟨rfl, hr, k⟩
  go_wp2_with fail
  go_end0
  exact ⟨rfl, hr, k⟩
set_option maxHeartbeats 1000000 in
/-- A file is deleted. -/
theorem step6_any (B d M X x n : Nat) (F : List Fl) (y : List UInt8) (w : World) (hx : bx w x (pt X)) (hn : bx w n (nmV y)) (hX : w.cell? ⟨X, 2, none⟩ = some (pt d)) (hD : DiskIs w B d M F) (hy : y.length ≤ 100) :
    Calls Tryz.prog 51 #[pt x, pt n] w fun e w' => e = .returned (.tuple #[]) ∧ Ran w w' B d M F (updD (absF F) y none) ∧ Kp [M] w w' := by
  have hDd : DiskIs w.drew B d M F := hD.kp ((Kp.refl [] w).drewN 1) (by simp) (by simp) (by simp)
  have hsd := ddel_any B d M F y w.drew hDd hy
  have HD := hide hDd
  unfold bx at hx hn
  unfold pt at hx hX ⊢
  obtain ⟨nb, hnb⟩ : ∃ nb : ByteArray, nmV y = .string nb := ⟨_, rfl⟩
  rw [hnb] at hn hsd
  have kd : Kp [M] w w.drew := (Kp.refl _ _).drewN 1
  clear hD hDd
  go_enter Tryz.func51, Tryz.ntmps51
  go_region_with (go_at_call 52; refine hsd.mono ?_; rintro e w1 ⟨rfl, hm, k⟩)
  all_goals
    go_end0
    exact ⟨rfl, ⟨(Ran.cut HD.out k hm).ex⟩, kd.next k⟩
set_option maxHeartbeats 1000000 in
/-- The draft is written. -/
theorem step3_any (B d M X x c n nx lo : Nat) (F : List Fl) (Ps : List PPt) (v : Value) (w : World) (hB : B ≤ w.heap.size) (hx : bx w x (pt X)) (hc : w.heap[c]? = some (.cells #[.int .i64 (n : Int), .int .i64 (nx : Int), v] 94 (0, 0))) (hv : w.ownsRow lo 143 3 v Ps.length (tsV Ps)) (hX : w.cell? ⟨X, 2, none⟩ = some (pt d)) (hD : DiskIs w B d M F) (hF : F.length < 10000000)
    (hn : n < 268435456) (hnx : nx < 268435456) (hk2 : Ps.length ≤ 1000000) (hnum : ∀ t ∈ Ps, t.num < 268435456 ∧ t.T.length ≤ 60 ∧ t.dead < 18446744073709551616) :
    Calls Tryz.prog 44 #[pt x, pt c] w fun e w' => e = .returned (.tuple #[]) ∧ Ran w w' B d M F (updD (absF F) tN (some (comB n nx Ps, false))) ∧ Kp [M] w w' := by
  have kd0 : Kp [] w w.drew := (Kp.refl _ _).drewN 1
  have hcf := cfile_any lo n nx Ps.length v Ps w.drew (kd0.owns hv (by simp)) rfl hn hnx hk2 hnum
  have hbl : (comB n nx Ps).length ≤ 100000000 := by
    have h1 := comD_len n nx Ps.length
    have h2 := flat_len Ps (fun t ht => (hnum t ht).2.1)
    unfold comB comH
    rw [List.length_append, sumB_len, List.length_append]
    omega
  obtain ⟨va, vc, ev, _⟩ := owns_forms hv
  subst ev
  unfold bx at hx
  unfold pt at hx hX ⊢
  obtain ⟨c0, c1, c2⟩ : w.cell? ⟨c, 0, none⟩ = some (.int .i64 (n : Int)) ∧ w.cell? ⟨c, 1, none⟩ = some (.int .i64 (nx : Int)) ∧ w.cell? ⟨c, 2, none⟩ = some (.slice va Ps.length vc) := by refine ⟨?_, ?_, ?_⟩ <;> simp [World.cell?, hc]
  have HD := hide hD
  have n1 := ne_map hD.map hx
  have n2 := ne_map hD.map hX
  have n3 := ne_map hD.map c0
  have mixed : Tryz.prog.follows .mixedOrders = true := by kernel_rfl
  clear hD hv hc
  go_enter Tryz.func44, Tryz.ntmps44
  refine region_E mixed (fun w' => w'.cell? ⟨x, 0, none⟩ = some (.pointer (some ⟨X, 0, none⟩)) ∧ w'.cell? ⟨X, 2, none⟩ = some (.pointer (some ⟨d, 0, none⟩)) ∧ w'.cell? ⟨c, 0, none⟩ = some (.int .i64 (n : Int)) ∧ w'.cell? ⟨c, 1, none⟩ = some (.int .i64 (nx : Int)) ∧ w'.cell? ⟨c, 2, none⟩ = some (.slice va Ps.length vc)) 99 ?_
  have hS0 : w.drew.cell? ⟨x, 0, none⟩ = some (.pointer (some ⟨X, 0, none⟩)) ∧ w.drew.cell? ⟨X, 2, none⟩ = some (.pointer (some ⟨d, 0, none⟩)) ∧ w.drew.cell? ⟨c, 0, none⟩ = some (.int .i64 (n : Int)) ∧ w.drew.cell? ⟨c, 1, none⟩ = some (.int .i64 (nx : Int)) ∧ w.drew.cell? ⟨c, 2, none⟩ = some (.slice va Ps.length vc) := ⟨hx, hX, c0, c1, c2⟩
  refine anyE_tk 0 2 (.pointer (some ⟨X, 0, none⟩)) rfl (Or.inl ⟨by rfl, fun w' hS => by obtain ⟨s1, s2, s3, s4, s5⟩ := hS; go_simp⟩) hS0 ?_
  try simp only [Act.put, List.setIfInBounds_toArray, List.set_cons_zero, List.set_cons_succ]
  refine anyE_tk 1 3 (.pointer (some ⟨X, 0, none⟩)) rfl (Or.inl ⟨by rfl, fun w' hS => by obtain ⟨s1, s2, s3, s4, s5⟩ := hS; go_simp⟩) hS0 ?_
  try simp only [Act.put, List.setIfInBounds_toArray, List.set_cons_zero, List.set_cons_succ]
  refine anyE_tk 2 4 (.pointer (some ⟨X, 2, none⟩)) rfl (Or.inl ⟨by rfl, fun w' hS => by obtain ⟨s1, s2, s3, s4, s5⟩ := hS; go_simp⟩) hS0 ?_
  try simp only [Act.put, List.setIfInBounds_toArray, List.set_cons_zero, List.set_cons_succ]
  refine anyE_tk 3 5 (.pointer (some ⟨d, 0, none⟩)) rfl (Or.inl ⟨by rfl, fun w' hS => by obtain ⟨s1, s2, s3, s4, s5⟩ := hS; go_simp⟩) hS0 ?_
  try simp only [Act.put, List.setIfInBounds_toArray, List.set_cons_zero, List.set_cons_succ]
  refine anyE_tk 4 6 (.agg #[.int .i64 (n : Int), .int .i64 (nx : Int), .slice va Ps.length vc]) rfl (Or.inl ⟨by rfl, fun w' hS => by obtain ⟨s1, s2, s3, s4, s5⟩ := hS; go_simp⟩) hS0 ?_
  try simp only [Act.put, List.setIfInBounds_toArray, List.set_cons_zero, List.set_cons_succ]
  refine anyE_call (i := 5) (o := { dst := some 7, op := _, type := _, pos := _, after := _, guard := _ }) (by kernel_rfl) rfl rfl (by go_simp) hcf ?_
  rintro e w1 ⟨fv, rfl, hfv, k1⟩
  have k01 := kd0.next k1
  have hS1 : w1.cell? ⟨x, 0, none⟩ = some (.pointer (some ⟨X, 0, none⟩)) ∧ w1.cell? ⟨X, 2, none⟩ = some (.pointer (some ⟨d, 0, none⟩)) ∧ w1.cell? ⟨c, 0, none⟩ = some (.int .i64 (n : Int)) ∧ w1.cell? ⟨c, 1, none⟩ = some (.int .i64 (nx : Int)) ∧ w1.cell? ⟨c, 2, none⟩ = some (.slice va Ps.length vc) := ⟨k01.cellv hx (by simp), k01.cellv hX (by simp), k01.cellv c0 (by simp), k01.cellv c1 (by simp), k01.cellv c2 (by simp)⟩
  refine ⟨_, rfl, .inr hS1, ?_⟩
  try simp only [Act.put, List.setIfInBounds_toArray, List.set_cons_zero, List.set_cons_succ]
  have hD1 : DiskIs w1 B d M F := HD.out.kp k01 (by simp) (by simp) (by simp)
  have hdw : Calls Tryz.prog 40 #[.pointer (some ⟨d, 0, none⟩), .string ⟨#[116]⟩, fv] w1 _ := dwrite_any B d M F tN (comB n nx Ps) fv w1 hD1 (by decide) (ownsRow_base_a hfv hB) hbl
  refine anyE_call (i := 6) (o := { dst := some 8, op := _, type := _, pos := _, after := _, guard := _ }) (by kernel_rfl) rfl rfl (by go_simp) hdw ?_
  rintro e w2 ⟨rfl, v2, hv2, hm2, k2⟩
  have hS2 : w2.cell? ⟨x, 0, none⟩ = some (.pointer (some ⟨X, 0, none⟩)) ∧ w2.cell? ⟨X, 2, none⟩ = some (.pointer (some ⟨d, 0, none⟩)) ∧ w2.cell? ⟨c, 0, none⟩ = some (.int .i64 (n : Int)) ∧ w2.cell? ⟨c, 1, none⟩ = some (.int .i64 (nx : Int)) ∧ w2.cell? ⟨c, 2, none⟩ = some (.slice va Ps.length vc) := ⟨k2.cellv hS1.1 (by simpa using n1), k2.cellv hS1.2.1 (by simpa using n2), k2.cellv hS1.2.2.1 (by simpa using n3), k2.cellv hS1.2.2.2.1 (by simpa using n3), k2.cellv hS1.2.2.2.2 (by simpa using n3)⟩
  refine ⟨_, rfl, .inr hS2, ?_⟩
  try simp only [Act.put, List.setIfInBounds_toArray, List.set_cons_zero, List.set_cons_succ]
  refine anyE_done (by kernel_rfl) ?_ _
  have k02 : Kp [M] w w2 := (k01.mono (by simp)).next k2
  have hz1 := k01.size
  have hran := Ran.put (f := ⟨tN, comB n nx Ps, v2, false⟩) HD.out k02 hm2 (ownsRow_base_a hv2 (by omega)) hbl hF (.inr fun g hg => by have := (hv2.lt g hg).1; omega)
  go_end0
  exact ⟨rfl, hran, k02⟩
end Go.Proofs.YtnffagpdnklnkaaGreatDoor.Pak
