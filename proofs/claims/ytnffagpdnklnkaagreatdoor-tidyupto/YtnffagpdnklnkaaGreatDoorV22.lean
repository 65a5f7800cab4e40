import Derived.Test.YtnffagpdnklnkaaGreatDoorV21
import Derived.Test.YtnffagpdnklnkaaGreatDoorV10
import Derived.Sort.KeysCollected
import Derived.Shelf.Bytes.SlClone
import Derived.Shelf.SlIter.Sorted
import Derived.Shelf.SlIterI.Sorted
import Derived.Shelf.SlicesE.DeleteFunc
import Derived.Shelf.SlicesQ.IndexFunc
import Derived.Ground.SlbCloneProg
import Derived.Ground.GgzProg
import Derived.Ground.SlgfProg
import Derived.Test.YtnffagpdnklnkaaGreatDoorProg
set_option linter.unusedVariables false
set_option linter.unusedSimpArgs false
set_option maxRecDepth 8000
namespace Go.Proofs.YtnffagpdnklnkaaGreatDoor.Pak
open Go.RowKit Go.Proofs.YtnffagpdnklnkaaGreatDoor Go.Proofs.YtnffagpdnklnkaaGreatDoor.Spl SiftM Go.Maps
/-- A file of a disk: its name, its bytes, the list that holds them, whether it is synced. -/
structure Fl where
  nm : List UInt8
  bs : List UInt8
  v : Value
  sy : Bool
def flV (f : Fl) : Value := .agg #[f.v, .bool f.sy]
def nmV (x : List UInt8) : Value := .string ⟨x.toArray⟩
def nmK (x : List UInt8) : Lit := .string x
theorem keyOf_nm (x : List UInt8) (h : x.length ≤ 100) : keyOf Tryz.prog 9 (nmV x) = some (nmK x) := by
  have hx : x.length ≤ maxLen := by unfold maxLen; omega
  simp [keyOf, Tryz.underlying9, mapKey, nmV, nmK, ByteArray.size, hx]
theorem nmsK : Keyed Tryz.prog 9 := Maps.string_keyed Tryz.underlying9
theorem nmK_inj {a b : List UInt8} (h : nmK a = nmK b) : a = b := by
  unfold nmK at h
  simpa using h
theorem nmK_lit (x : List UInt8) : WideAt.IsKeyLit (nmK x) := trivial
theorem zero120 (w : World) : (zeroValue 120).run Tryz.prog w = .ok (.agg #[.slice none 0 0, .bool false]) w := by kernel_rfl
def nms (F : List Fl) : List (List UInt8) := F.map Fl.nm
/-- Block M is the map of files F. -/
def DkM (w : World) (M : Nat) (F : List Fl) : Prop :=
  ∃ D : DataW Value, w.ownsMap Tryz.prog 9 anyR M F.length D ∧ Maps.size D = F.length ∧
    (∀ x, Maps.has D (nmK x) = decide (x ∈ nms F)) ∧
    (∀ f ∈ F, ∀ z, D.atKey (nmK f.nm) z = .held (flV f)) ∧ (nms F).Nodup ∧ ∀ x ∈ nms F, x.length ≤ 100
theorem DkM.lt {w : World} {M : Nat} {F : List Fl} (h : DkM w M F) : M < w.heap.size := by
  obtain ⟨D, h1, _⟩ := h; exact h1.lt
theorem DkM.block {w : World} {M : Nat} {F : List Fl} (h : DkM w M F) : ∃ es clock, w.heap[M]? = some (.map es clock) := by
  obtain ⟨D, ⟨es, clock, h1, _⟩, _⟩ := h; exact ⟨es, clock, h1⟩
theorem DkM.kp {S : List Nat} {w w' : World} {M : Nat} {F : List Fl} (h : DkM w M F) (k : Kp S w w') (hM : M ∉ S) : DkM w' M F := by
  obtain ⟨D, ⟨es, clock, h1, h2⟩, h3⟩ := h
  exact ⟨D, ⟨es, clock, k.heap h1 hM, h2⟩, h3⟩
theorem DkM.nodup {w : World} {M : Nat} {F : List Fl} (h : DkM w M F) : (nms F).Nodup := by obtain ⟨D, _, _, _, _, h5, _⟩ := h; exact h5
theorem DkM.short {w : World} {M : Nat} {F : List Fl} (h : DkM w M F) : ∀ x ∈ nms F, x.length ≤ 100 := by obtain ⟨D, _, _, _, _, _, h6⟩ := h; exact h6
theorem dkM_made (w : World) : DkM (w.alloc (.map #[] 0)) w.heap.size [] := by
  refine ⟨.map [], World.ownsMap_made _ _ _ _, rfl, fun x => rfl, fun f hf => (by cases hf), List.nodup_nil, fun x hx => (by cases hx)⟩
theorem owns_sizeN {w : World} {M n : Nat} {D : DataW Value} (h : w.ownsMap Tryz.prog 9 anyR M n D) : w.ownsMap Tryz.prog 9 anyR M (Maps.size D) D := by
  obtain ⟨es, clock, h1, h2, h3, rfl⟩ := h
  exact ⟨es, clock, h1, h2, by simp [Maps.size, length_sorted], rfl⟩
/-- f := files[x], with a second answer or without. -/
theorem DkM.look {w : World} {M : Nat} {F : List Fl} (h : DkM w M F) (x : List UInt8) (hx : x.length ≤ 100) (c : Bool) :
    ∃ v, (Instr.lookup 118 (.map (some M)) (nmV x) c).run Tryz.prog w = .ok (if c then .tuple #[v, .bool (decide (x ∈ nms F))] else v) w ∧ (∀ f ∈ F, f.nm = x → v = flV f) ∧ (x ∉ nms F → v = .agg #[.slice none 0 0, .bool false]) := by
  obtain ⟨D, hown, hsz, hhas, hat, hnd, hl⟩ := h
  have hz := zero120 w
  obtain ⟨es, clock, hb, Ft, hs, hD⟩ := hown
  rcases Maps.fit_look c nmsK Tryz.underlying118 hz hb Ft (keyOf_nm x hx) with ⟨hrun, _, hat0⟩ | ⟨e0, y, _, _, hrun, hRv, hat1, _⟩
  · have hno : Maps.has D (nmK x) = false := by rw [hD]; exact Maps.has_false_of_atKey hat0
    rw [hhas x] at hno
    have hno' : x ∉ nms F := of_decide_eq_false hno
    refine ⟨_, by rw [hno]; exact hrun, fun f hf e => ?_, fun _ => rfl⟩
    exact absurd (List.mem_map.2 ⟨f, hf, e⟩) hno'
  · have hyes : Maps.has D (nmK x) = true := by rw [hD]; exact Maps.has_true_of_atKey hat1
    rw [hhas x] at hyes
    refine ⟨_, by rw [hyes]; exact hrun, fun f hf e => ?_, fun hn => absurd (of_decide_eq_true hyes) hn⟩
    have h1 := hat f hf (.held (flV f))
    rw [e, hD, hat1] at h1
    unfold anyR at hRv
    have h2 := Option.some.inj hRv
    have h3 : y.1 = .held e0.val := by rw [← h2]
    rw [h3] at h1
    simpa using h1
/-- The files without one. -/
def lack (F : List Fl) (x : List UInt8) : List Fl := F.filter fun f => !decide (f.nm = x)
theorem lack_nms (F : List Fl) (x y : List UInt8) : y ∈ nms (lack F x) ↔ y ∈ nms F ∧ y ≠ x := by
  unfold nms lack
  simp only [List.mem_map, List.mem_filter, Bool.not_eq_true', decide_eq_false_iff_not]
  constructor
  · rintro ⟨f, ⟨hf, hn⟩, rfl⟩; exact ⟨⟨f, hf, rfl⟩, hn⟩
  · rintro ⟨⟨f, hf, rfl⟩, hn⟩; exact ⟨f, ⟨hf, hn⟩, rfl⟩
theorem lack_nodup (F : List Fl) (x : List UInt8) (h : (nms F).Nodup) : (nms (lack F x)).Nodup := h.sublist ((List.filter_sublist).map _)
theorem lack_len : ∀ (F : List Fl) (x : List UInt8), (nms F).Nodup → (lack F x).length + (if x ∈ nms F then 1 else 0) = F.length
  | [], x, _ => by simp [lack, nms]
  | f :: F, x, h => by
    have h1 : f.nm ∉ nms F := (List.nodup_cons.1 h).1
    have h2 := lack_len F x (List.nodup_cons.1 h).2
    by_cases e : f.nm = x
    · subst e
      have h3 : f.nm ∈ nms (f :: F) := by simp [nms]
      rw [if_pos h3]
      rw [if_neg h1] at h2
      have h4 : lack (f :: F) f.nm = lack F f.nm := by unfold lack; rw [List.filter_cons_of_neg (by simp)]
      rw [h4, List.length_cons]
      omega
    · have h4 : lack (f :: F) x = f :: lack F x := by unfold lack; rw [List.filter_cons_of_pos (by simp [e])]
      have h5 : (x ∈ nms (f :: F)) ↔ x ∈ nms F := by simp [nms, Ne.symm e]
      rw [h4, List.length_cons, List.length_cons]
      simp only [h5]
      omega
/-- files[x] = f. -/
theorem DkM.store {w : World} {M : Nat} {F : List Fl} (h : DkM w M F) (hc : F.length ≤ 1000000000) (f : Fl) (hx : f.nm.length ≤ 100) :
    ∃ w', (Instr.mapUpdate 118 (.map (some M)) (nmV f.nm) (flV f)).run Tryz.prog w = .ok () w' ∧ DkM w' M (lack F f.nm ++ [f]) ∧ Kp [M] w w' := by
  obtain ⟨D, hown, hsz, hhas, hat, hnd, hl⟩ := h
  obtain ⟨w', hrun, h1, h2⟩ := hown.update nmsK Tryz.underlying118 (by unfold maxLen; omega) (keyOf_nm f.nm hx) (show anyR (flV f) = some (.held (flV f), []) from rfl)
  have hlen : Maps.size (D.put (nmK f.nm) (.held (flV f))) = (lack F f.nm ++ [f]).length := by
    have h3 := lack_len F f.nm hnd
    rw [Maps.size_put (hown.tidy nmsK), hhas f.nm, hsz, List.length_append, List.length_singleton]
    by_cases hm : f.nm ∈ nms F
    · rw [if_pos hm] at h3; rw [if_pos (decide_eq_true hm)]; omega
    · rw [if_neg hm] at h3; rw [if_neg (by simp [hm])]; omega
  refine ⟨w', hrun, ⟨D.put (nmK f.nm) (.held (flV f)), ?_, hlen, ?_, ?_, ?_, ?_⟩, (Kp.refl [M] w).grown h2 (fun k hk => by simp at hk; left; simp [hk])⟩
  · have := owns_sizeN h1
    rw [hlen] at this
    exact this
  · intro x
    have he : (x ∈ nms (lack F f.nm ++ [f])) ↔ (x ∈ nms F ∨ x = f.nm) := by
      have h3 := lack_nms F f.nm x
      unfold nms at h3 ⊢
      rw [List.map_append, List.mem_append, h3]
      simp only [List.map_cons, List.map_nil, List.mem_singleton]
      by_cases e : x = f.nm <;> simp [e]
    by_cases e : x = f.nm
    · subst e
      rw [Maps.has_put_same hown.isMap (nmK_lit _)]
      exact (decide_eq_true (he.2 (.inr rfl))).symm
    · rw [Maps.has_put_other (fun h => e (nmK_inj h)), hhas x]
      apply decide_eq_decide.2
      rw [he]
      simp [e]
  · intro g hg z
    rcases List.mem_append.1 hg with hg | hg
    · obtain ⟨hg1, hg2⟩ := List.mem_filter.1 hg
      have hne : g.nm ≠ f.nm := by simpa using hg2
      rw [Maps.atKey_put_other (fun h => hne (nmK_inj h))]
      exact hat g hg1 z
    · obtain rfl := List.mem_singleton.1 hg
      exact Maps.atKey_put_same hown.isMap (nmK_lit _) _ _
  · unfold nms
    rw [List.map_append]
    refine List.nodup_append.2 ⟨lack_nodup F f.nm hnd, by simp, ?_⟩
    intro a ha b hb
    simp only [List.map_cons, List.map_nil, List.mem_singleton] at hb
    subst hb
    exact ((lack_nms F f.nm a).1 ha).2
  · intro x hx'
    unfold nms at hx'
    rw [List.map_append, List.mem_append] at hx'
    rcases hx' with hx' | hx'
    · exact hl x ((lack_nms F f.nm x).1 hx').1
    · simp only [List.map_cons, List.map_nil, List.mem_singleton] at hx'
      rw [hx']; exact hx
/-- delete(files, x). -/
theorem DkM.drop {w : World} {M : Nat} {F : List Fl} (h : DkM w M F) (x : List UInt8) (hx : x.length ≤ 100) (ty : TypeId) :
    ∃ w', (Builtin.delete_ #[118, 9] ty #[.map (some M), nmV x]).run Tryz.prog w = .ok (.tuple #[]) w' ∧ DkM w' M (lack F x) ∧ Kp [M] w w' := by
  obtain ⟨D, hown, hsz, hhas, hat, hnd, hl⟩ := h
  obtain ⟨w', hrun, h1, h2⟩ := hown.drop nmsK Tryz.underlying118 (keyOf_nm x hx) ty
  have hsd : Maps.size (D.del (nmK x)) = (lack F x).length := by
    have h3 := Maps.size_del (k := nmK x) (hown.tidy nmsK)
    have h4 := lack_len F x hnd
    rw [hhas x, hsz] at h3
    by_cases hm : x ∈ nms F
    · rw [if_pos hm] at h4; rw [if_pos (decide_eq_true hm)] at h3; omega
    · rw [if_neg hm] at h4; rw [if_neg (by simp [hm])] at h3; omega
  refine ⟨w', hrun, ⟨D.del (nmK x), ?_, hsd, ?_, ?_, lack_nodup F x hnd, fun y hy => hl y ((lack_nms F x y).1 hy).1⟩, (Kp.refl [M] w).grown h2.grown (fun k hk => by simp at hk; left; simp [hk])⟩
  · have := owns_sizeN h1
    rw [hsd] at this
    exact this
  · intro y
    by_cases e : y = x
    · subst e
      rw [Maps.has_del_same]
      exact (decide_eq_false (fun h => ((lack_nms F y y).1 h).2 rfl)).symm
    · rw [Maps.has_del_other (fun h => e (nmK_inj h)), hhas y]
      apply decide_eq_decide.2
      rw [lack_nms]
      simp [e]
  · intro g hg z
    obtain ⟨hg1, hg2⟩ := List.mem_filter.1 hg
    have hne : g.nm ≠ x := by simpa using hg2
    rw [Maps.atKey_del_other (fun h => hne (nmK_inj h))]
    exact hat g hg1 z
/-- The keys of the map, as the library reads them. -/
theorem DkM.keys {w : World} {M : Nat} {F : List Fl} (h : DkM w M F) : ∃ D : DataW Value, w.ownsMap Tryz.prog 9 anyR M F.length D ∧ Maps.size D = F.length ∧ (strKeys D).Perm (nms F) := by
  obtain ⟨D, hown, hsz, hhas, hat, hnd, hl⟩ := h
  refine ⟨D, hown, hsz, ?_⟩
  obtain ⟨es, hD, hpw, _⟩ := hown.entries nmsK
  obtain ⟨es', hD', hko⟩ := hown.keysOf
  obtain rfl : es = es' := by rw [hD] at hD'; simpa using hD'
  subst hD
  refine (perm_strKeys hpw (fun p hp => by obtain ⟨v, hv⟩ := hko p hp; obtain ⟨x, _, hx, _⟩ := Maps.keyOf_str Tryz.underlying9 hv; exact ⟨x, hx⟩) hnd (fun x => ?_)).symm
  have := hhas x
  unfold nmK at this
  rw [this]
  simp
end Go.Proofs.YtnffagpdnklnkaaGreatDoor.Pak
namespace Go.Proofs
open Go.Shelf
def Tryz.laysK_ren : Go.Shelf.Ren := ⟨fun | 4 => 60 | n => n, fun | 22 => 42 | 4 => 4 | 5 => 5 | n => n, fun | n => n⟩
theorem Tryz.laysK : Go.Proofs.SlLaysK.n4 Tryz.prog Tryz.laysK_ren := {
  mixed := by kernel_rfl
  f4 := Tryz.func60.trans (congrArg some (by kernel_rfl))
  t4 := Tryz.underlying4
  a4 := Tryz.isAgg4
  z4 := Tryz.sizeOf4
  v4 := Tryz.zeroValue4
  t22 := Tryz.underlying42
  a22 := Tryz.isAgg42
  z22 := Tryz.sizeOf42
  v22 := Tryz.zeroValue42
  t5 := Tryz.underlying5
  i5 := by kernel_rfl }

def Tryz.laysZ6_ren : Go.Shelf.Ren := ⟨fun | 6 => 57 | 8 => 90 | 9 => 91 | 11 => 133 | 13 => 135 | 12 => 134 | 23 => 178 | 24 => 137 | 14 => 170 | 15 => 171 | 16 => 172 | 17 => 173 | 18 => 174 | 19 => 175 | 20 => 131 | 21 => 176 | 22 => 177 | 25 => 199 | 26 => 200 | 27 => 201 | 28 => 202 | 29 => 203 | 30 => 169 | 31 => 224 | n => n, fun | 26 => 9 | 28 => 116 | 24 => 37 | 0 => 0 | 3 => 3 | 37 => 206 | 48 => 214 | 50 => 78 | 4 => 4 | 40 => 245 | 39 => 244 | 45 => 151 | 5 => 5 | 9 => 9 | 51 => 271 | 55 => 275 | 57 => 292 | 58 => 293 | 33 => 96 | n => n, fun | n => n⟩
theorem Tryz.laysZ6 : Go.Proofs.SlLaysZ.n6 Tryz.prog Tryz.laysZ6_ren := {
  mixed := by kernel_rfl
  f6 := ⟨ "slices.Sorted[string]", by decide, Tryz.func57.trans (congrArg some (by kernel_rfl))⟩
  f8 := ⟨ "slices.Collect[string]", by decide, Tryz.func90.trans (congrArg some (by kernel_rfl))⟩
  f11 := ⟨ "slices.AppendSeq[[]string,string]", by decide, Tryz.func133.trans (congrArg some (by kernel_rfl))⟩
  t0 := Tryz.underlying0
  a0 := Tryz.isAgg0
  z0 := Tryz.sizeOf0
  v0 := Tryz.zeroValue0
  t24 := Tryz.underlying37
  a24 := Tryz.isAgg37
  z24 := Tryz.sizeOf37
  v24 := Tryz.zeroValue37
  t26 := Tryz.underlying9
  a26 := Tryz.isAgg9
  z26 := Tryz.sizeOf9
  v26 := Tryz.zeroValue9
  t28 := Tryz.underlying116
  a28 := Tryz.isAgg116
  z28 := Tryz.sizeOf116
  v28 := Tryz.zeroValue116
  i26 := by kernel_rfl }

def Tryz.laysZ7_ren : Go.Shelf.Ren := ⟨fun | 7 => 58 | 10 => 92 | n => n, fun | 23 => 118 | 26 => 9 | 3 => 120 | 28 => 116 | 0 => 0 | 27 => 115 | 33 => 96 | 4 => 4 | n => n, fun | n => n⟩
theorem Tryz.laysZ7 : Go.Proofs.SlLaysZ.n7 Tryz.prog Tryz.laysZ7_ren := {
  mixed := by kernel_rfl
  f7 := ⟨ "maps.Keys[map[string]sift/disk.file,string,sift/disk.file]", by decide, Tryz.func58.trans (congrArg some (by kernel_rfl))⟩
  f10 := ⟨ "maps.Keys[map[string]sift/disk.file,string,sift/disk.file]$1", by decide, Tryz.func92.trans (congrArg some (by kernel_rfl))⟩
  t0 := Tryz.underlying0
  a0 := Tryz.isAgg0
  z0 := Tryz.sizeOf0
  v0 := Tryz.zeroValue0
  t4 := Tryz.underlying4
  a4 := Tryz.isAgg4
  z4 := Tryz.sizeOf4
  v4 := Tryz.zeroValue4
  t23 := Tryz.underlying118
  a23 := Tryz.isAgg118
  z23 := Tryz.sizeOf118
  v23 := Tryz.zeroValue118
  t26 := Tryz.underlying9
  a26 := Tryz.isAgg9
  z26 := Tryz.sizeOf9
  v26 := Tryz.zeroValue9
  t27 := Tryz.underlying115
  a27 := Tryz.isAgg115
  z27 := Tryz.sizeOf115
  v27 := Tryz.zeroValue115
  t28 := Tryz.underlying116
  a28 := Tryz.isAgg116
  z28 := Tryz.sizeOf116
  v28 := Tryz.zeroValue116
  t33 := Tryz.underlying96
  a33 := Tryz.isAgg96
  z33 := Tryz.sizeOf96
  v33 := Tryz.zeroValue96 }

def Tryz.laysZI6_ren : Go.Shelf.Ren := ⟨fun | 6 => 114 | 8 => 151 | 9 => 152 | 11 => 189 | 13 => 135 | 12 => 190 | 23 => 178 | 24 => 137 | 14 => 206 | 15 => 207 | 16 => 208 | 17 => 209 | 18 => 210 | 19 => 211 | 20 => 212 | 21 => 213 | 22 => 214 | 25 => 226 | 26 => 200 | 27 => 201 | 28 => 227 | 29 => 228 | 30 => 194 | 31 => 233 | n => n, fun | 26 => 3 | 28 => 178 | 24 => 59 | 0 => 0 | 3 => 3 | 37 => 206 | 48 => 214 | 50 => 78 | 4 => 4 | 40 => 245 | 39 => 244 | 45 => 151 | 5 => 5 | 9 => 9 | 51 => 271 | 55 => 275 | 57 => 292 | 58 => 293 | 33 => 171 | n => n, fun | n => n⟩
theorem Tryz.laysZI6 : Go.Proofs.SlLaysZI.n6 Tryz.prog Tryz.laysZI6_ren := {
  mixed := by kernel_rfl
  f6 := ⟨ "slices.Sorted[int]", by decide, Tryz.func114.trans (congrArg some (by kernel_rfl))⟩
  f8 := ⟨ "slices.Collect[int]", by decide, Tryz.func151.trans (congrArg some (by kernel_rfl))⟩
  f11 := ⟨ "slices.AppendSeq[[]int,int]", by decide, Tryz.func189.trans (congrArg some (by kernel_rfl))⟩
  t0 := Tryz.underlying0
  a0 := Tryz.isAgg0
  z0 := Tryz.sizeOf0
  v0 := Tryz.zeroValue0
  t24 := Tryz.underlying59
  a24 := Tryz.isAgg59
  z24 := Tryz.sizeOf59
  v24 := Tryz.zeroValue59
  t26 := Tryz.underlying3
  a26 := Tryz.isAgg3
  z26 := Tryz.sizeOf3
  v26 := Tryz.zeroValue3
  t28 := Tryz.underlying178
  a28 := Tryz.isAgg178
  z28 := Tryz.sizeOf178
  v28 := Tryz.zeroValue178
  i26 := by kernel_rfl }

def Tryz.laysZI7_ren : Go.Shelf.Ren := ⟨fun | 7 => 115 | 10 => 153 | n => n, fun | 23 => 175 | 26 => 3 | 3 => 66 | 28 => 178 | 0 => 0 | 27 => 177 | 33 => 171 | 4 => 4 | n => n, fun | n => n⟩
theorem Tryz.laysZI7 : Go.Proofs.SlLaysZI.n7 Tryz.prog Tryz.laysZI7_ren := {
  mixed := by kernel_rfl
  f7 := ⟨ "maps.Keys[map[int][]*sift/sift.part,int,[]*sift/sift.part]", by decide, Tryz.func115.trans (congrArg some (by kernel_rfl))⟩
  f10 := ⟨ "maps.Keys[map[int][]*sift/sift.part,int,[]*sift/sift.part]$1", by decide, Tryz.func153.trans (congrArg some (by kernel_rfl))⟩
  t0 := Tryz.underlying0
  a0 := Tryz.isAgg0
  z0 := Tryz.sizeOf0
  v0 := Tryz.zeroValue0
  t4 := Tryz.underlying4
  a4 := Tryz.isAgg4
  z4 := Tryz.sizeOf4
  v4 := Tryz.zeroValue4
  t23 := Tryz.underlying175
  a23 := Tryz.isAgg175
  z23 := Tryz.sizeOf175
  v23 := Tryz.zeroValue175
  t26 := Tryz.underlying3
  a26 := Tryz.isAgg3
  z26 := Tryz.sizeOf3
  v26 := Tryz.zeroValue3
  t27 := Tryz.underlying177
  a27 := Tryz.isAgg177
  z27 := Tryz.sizeOf177
  v27 := Tryz.zeroValue177
  t28 := Tryz.underlying178
  a28 := Tryz.isAgg178
  z28 := Tryz.sizeOf178
  v28 := Tryz.zeroValue178
  t33 := Tryz.underlying171
  a33 := Tryz.isAgg171
  z33 := Tryz.sizeOf171
  v33 := Tryz.zeroValue171 }

def Tryz.laysH10_ren : Go.Shelf.Ren := ⟨fun | 10 => 84 | 6 => 130 | n => n, fun | 22 => 37 | 23 => 9 | 25 => 96 | 3 => 3 | 4 => 4 | 0 => 0 | n => n, fun | n => n⟩
theorem Tryz.laysH10 : Go.Proofs.SlLaysH.n10 Tryz.prog Tryz.laysH10_ren := {
  mixed := by kernel_rfl
  f6 := ⟨ "slices.IndexFunc[[]string,string]", by decide, Tryz.func130.trans (congrArg some (by kernel_rfl))⟩
  f10 := ⟨ "slices.DeleteFunc[[]string,string]", by decide, Tryz.func84.trans (congrArg some (by kernel_rfl))⟩
  t0 := Tryz.underlying0
  a0 := Tryz.isAgg0
  z0 := Tryz.sizeOf0
  v0 := Tryz.zeroValue0
  t3 := Tryz.underlying3
  a3 := Tryz.isAgg3
  z3 := Tryz.sizeOf3
  v3 := Tryz.zeroValue3
  t4 := Tryz.underlying4
  a4 := Tryz.isAgg4
  z4 := Tryz.sizeOf4
  v4 := Tryz.zeroValue4
  t22 := Tryz.underlying37
  a22 := Tryz.isAgg37
  z22 := Tryz.sizeOf37
  v22 := Tryz.zeroValue37
  a23 := Tryz.isAgg9
  z23 := Tryz.sizeOf9
  t25 := Tryz.underlying96
  a25 := Tryz.isAgg96
  z25 := Tryz.sizeOf96
  v25 := Tryz.zeroValue96 }

def Tryz.laysH8_ren : Go.Shelf.Ren := ⟨fun | 8 => 156 | 6 => 192 | n => n, fun | 22 => 180 | 23 => 185 | 25 => 230 | 4 => 4 | 3 => 3 | 0 => 0 | n => n, fun | n => n⟩
theorem Tryz.laysH8 : Go.Proofs.SlLaysH0.n8 Tryz.prog Tryz.laysH8_ren := {
  mixed := by kernel_rfl
  f6 := ⟨ "slices.IndexFunc[[]sift/sift.stake,sift/sift.stake]", by decide, Tryz.func192.trans (congrArg some (by kernel_rfl))⟩
  f8 := ⟨ "slices.ContainsFunc[[]sift/sift.stake,sift/sift.stake]", by decide, Tryz.func156.trans (congrArg some (by kernel_rfl))⟩
  t0 := Tryz.underlying0
  a0 := Tryz.isAgg0
  z0 := Tryz.sizeOf0
  v0 := Tryz.zeroValue0
  t3 := Tryz.underlying3
  a3 := Tryz.isAgg3
  z3 := Tryz.sizeOf3
  v3 := Tryz.zeroValue3
  t4 := Tryz.underlying4
  a4 := Tryz.isAgg4
  z4 := Tryz.sizeOf4
  v4 := Tryz.zeroValue4
  t22 := Tryz.underlying180
  a22 := Tryz.isAgg180
  z22 := Tryz.sizeOf180
  v22 := Tryz.zeroValue180
  t25 := Tryz.underlying230
  a25 := Tryz.isAgg230
  z25 := Tryz.sizeOf230
  v25 := Tryz.zeroValue230 }
end Go.Proofs
namespace Go.Proofs.YtnffagpdnklnkaaGreatDoor.Pak
open Go.RowKit Go.Proofs.YtnffagpdnklnkaaGreatDoor Go.Proofs.YtnffagpdnklnkaaGreatDoor.Spl SiftM
theorem cells_mapD {w : World} {a b : Nat} {c1 : Array Value} {t1 : TypeId} {f1 : Nat × Nat} {es : Array MapEntry} {ck : Nat} (h1 : w.heap[a]? = some (.cells c1 t1 f1)) (h2 : w.heap[b]? = some (.map es ck)) : a ≠ b := by
  rintro rfl
  rw [h1] at h2
  simp at h2
theorem inj_nodup {α β : Type} {f : α → β} : ∀ {l : List α}, (l.map f).Nodup → ∀ a ∈ l, ∀ b ∈ l, f a = f b → a = b
  | [], _, a, ha, _, _, _ => by cases ha
  | x :: r, h, a, ha, b, hb, e => by
    have h1 := List.nodup_cons.1 h
    rcases List.mem_cons.1 ha with rfl | ha' <;> rcases List.mem_cons.1 hb with rfl | hb'
    · rfl
    · exact absurd (e ▸ List.mem_map.2 ⟨b, hb', rfl⟩) h1.1
    · exact absurd (e ▸ List.mem_map.2 ⟨a, ha', rfl⟩) h1.1
    · exact inj_nodup h1.2 a ha' b hb' e
/-- bytes.Clone. -/
theorem clone_any (B : Nat) (v : Value) (l : List UInt8) (w : World) (h : w.ownsRow B 5 1 v l.length (byV l)) (hl : l.length ≤ 100000000) :
    Calls Tryz.prog 60 #[v] w fun e w' => ∃ v', e = .returned v' ∧ w'.ownsRow w.heap.size 5 1 v' l.length (byV l) ∧ Kp [] w w' := by
  have hone : l.map (fun c : UInt8 => (c.toNat : Int)) |>.map (Value.int .u8) |> (· = byV l) := by simp [byV]
  rcases h.2 with ⟨rfl, hn⟩ | ⟨g, cap, cur, rfl, hb, hg, hcap, hcur, hfz, htake⟩
  · have hl0 : l = [] := by
      have := h.1
      cases l with
      | nil => rfl
      | cons x r => simp at hn
    subst hl0
    refine (Any.bytes_Clone_nil Tryz.laysK 0 0 w).mono ?_
    rintro e w' ⟨rfl, rfl⟩
    exact ⟨_, rfl, World.ownsRow_nil _ _ _ _, Kp.refl _ _⟩
  · refine (Any.bytes_Clone_at Tryz.laysK ⟨g, 0, none⟩ l.length cap (l.map fun c => (c.toNat : Int)) w (by simp) (by omega) ?_).mono ?_
    · intro i hi
      have := h.cells (g := g) rfl i (.int .u8 (l[i].toNat : Int)) (by simp [byV, hi])
      rw [this]
      simp [hi]
    · rintro e w' ⟨v', rfl, h1, _, hb'⟩
      have hone' : (l.map fun c : UInt8 => (c.toNat : Int)).map (Value.int .u8) = byV l := hone
      rw [hone'] at h1
      exact ⟨v', rfl, h1, Kp.of_below _ hb'⟩
/-- The disk at d, with the map M of its files. -/
structure DiskIs (w : World) (B d M : Nat) (F : List Fl) : Prop where
  blk : w.heap[d]? = some (.cells #[.map (some M)] 122 (0, 0))
  map : DkM w M F
  each : ∀ f ∈ F, w.ownsRow B 5 1 f.v f.bs.length (byV f.bs)
  few : F.length ≤ 10000000
  small : ∀ f ∈ F, f.bs.length ≤ 100000000
theorem DiskIs.kp {S : List Nat} {w w' : World} {B d M : Nat} {F : List Fl} (h : DiskIs w B d M F) (k : Kp S w w') (hd : d ∉ S) (hM : M ∉ S) (hF : ∀ f ∈ F, ∀ g, f.v.ownBlock = some g → g ∉ S) : DiskIs w' B d M F :=
  ⟨k.heap h.blk hd, h.map.kp k hM, fun f hf => k.owns (h.each f hf) (hF f hf), h.few, h.small⟩
theorem DiskIs.shape {w : World} {B d M : Nat} {F : List Fl} (h : DiskIs w B d M F) {x : List UInt8} {v : Value} (hv1 : ∀ f ∈ F, f.nm = x → v = flV f) (hv2 : x ∉ nms F → v = .agg #[.slice none 0 0, .bool false]) : ∃ a n c u, v = .agg #[.slice a n c, .bool u] := by
  by_cases hm : x ∈ nms F
  · obtain ⟨f, hf, e⟩ := List.mem_map.1 hm
    obtain ⟨a, c, e2, _⟩ := owns_forms (h.each f hf)
    have := hv1 f hf e
    unfold flV at this
    rw [e2] at this
    exact ⟨_, _, _, _, this⟩
  · exact ⟨_, _, _, _, hv2 hm⟩
theorem DiskIs.cell {w : World} {B d M : Nat} {F : List Fl} (h : DiskIs w B d M F) : w.cell? ⟨d, 0, none⟩ = some (.map (some M)) := by simp [World.cell?, h.blk]
/-- Has. -/
theorem dhas_any (B d M : Nat) (F : List Fl) (x : List UInt8) (w : World) (h : DiskIs w B d M F) (hx : x.length ≤ 100) :
    Calls Tryz.prog 38 #[.pointer (some ⟨d, 0, none⟩), nmV x] w fun e w' => e = .returned (.bool (decide (x ∈ nms F))) ∧ Kp [] w w' := by
  obtain ⟨v, hlook, hv1, hv2⟩ := h.map.look x hx true
  have hc := h.cell
  obtain ⟨u0, un, uc, u1, rfl⟩ := h.shape hv1 hv2
  obtain ⟨r, hr⟩ : ∃ r, decide (x ∈ nms F) = r := ⟨_, rfl⟩
  rw [hr] at hlook ⊢
  obtain ⟨xv, hxv⟩ : ∃ xv, nmV x = xv := ⟨_, rfl⟩
  rw [hxv] at hlook ⊢
  clear h hv1 hv2
  go_enter Tryz.func38, Tryz.ntmps38
  go_wp2_with (simp only [hlook])
  go_ret
  exact ⟨rfl, (Kp.refl _ _).alloc _⟩
/-- Delete. -/
theorem ddel_any (B d M : Nat) (F : List Fl) (x : List UInt8) (w : World) (h : DiskIs w B d M F) (hx : x.length ≤ 100) :
    Calls Tryz.prog 52 #[.pointer (some ⟨d, 0, none⟩), nmV x] w fun e w' => e = .returned (.tuple #[]) ∧ DkM w' M (lack F x) ∧ Kp [M] w w' := by
  obtain ⟨w', hrun, hm, hk⟩ := h.map.drop x hx 0
  have hc := h.cell
  obtain ⟨xv, hxv⟩ : ∃ xv, nmV x = xv := ⟨_, rfl⟩
  rw [hxv] at hrun ⊢
  clear h
  go_enter Tryz.func52, Tryz.ntmps52
  go_wp2_with (simp only [hrun])
  go_end0
  exact ⟨rfl, hm, hk⟩
/-- Sync. -/
theorem dsync_any (B d M : Nat) (F : List Fl) (f : Fl) (w : World) (h : DiskIs w B d M F) (hf : f ∈ F) :
    Calls Tryz.prog 43 #[.pointer (some ⟨d, 0, none⟩), nmV f.nm] w fun e w' => e = .returned (.tuple #[]) ∧ DkM w' M (lack F f.nm ++ [{ f with sy := true }]) ∧ Kp [M] w w' := by
  have hx : f.nm.length ≤ 100 := h.map.short _ (List.mem_map.2 ⟨f, hf, rfl⟩)
  obtain ⟨v, hlook, hv1, hv2⟩ := h.map.look f.nm hx false
  have hc := h.cell
  have hfv := hv1 f hf rfl
  obtain ⟨fa, fc, ef, _⟩ := owns_forms (h.each f hf)
  unfold flV at hfv
  rw [ef] at hfv
  subst hfv
  simp only [Bool.false_eq_true, if_false] at hlook
  have hdlt : d < w.heap.size := heap_lt h.blk
  obtain ⟨xv, hxv⟩ : ∃ xv, nmV f.nm = xv := ⟨_, rfl⟩
  have hlook' := hlook
  rw [hxv] at hlook' ⊢
  go_enter Tryz.func43, Tryz.ntmps43
  go_wp2_with (simp only [hlook'])
  obtain ⟨W2, hW2⟩ : ∃ W2, w.alloc (.cells #[.slice fa f.bs.length fc, .bool true] 120) = W2 := ⟨_, rfl⟩
  have k2 : Kp [] w W2 := by rw [← hW2]; exact (Kp.refl _ _).alloc _
  have hb2 : W2.heap[w.heap.size]? = some (.cells #[.slice fa f.bs.length fc, .bool true] 120 (0, 0)) := by rw [← hW2]; exact heap_alloc_new w _
  obtain ⟨c0, c1, f0, f1⟩ := rd_cells hb2
  have hc2 := k2.cellv hc (by simp)
  have hM2 : DkM W2.drew M F := h.map.kp (k2.drewN 1) (by simp)
  obtain ⟨W3, hrun, hm3, k3⟩ := hM2.store (by have := h.few; omega) { f with sy := true } hx
  have hrun' : (Instr.mapUpdate 118 (.map (some M)) xv (.agg #[.slice fa f.bs.length fc, .bool true])).run Tryz.prog W2.drew = .ok () W3 := by
    rw [← hxv, ← ef]; exact hrun
  have hk : Kp [M] w W3 := ((k2.drewN 1).mono (by simp)).next k3
  rw [hW2]
  clear hW2 hlook hlook' h hM2 hb2 hv1 hv2 hrun
  go_region_with (simp only [hrun'])
  all_goals
    go_wp2_with (simp only [hrun'])
    go_end0
    rw [ef] at hm3
    exact ⟨rfl, hm3, hk⟩
/-- Rename. -/
theorem dren_any (B d M : Nat) (F : List Fl) (f : Fl) (y : List UInt8) (w : World) (h : DiskIs w B d M F) (hf : f ∈ F) (hy : y.length ≤ 100) :
    Calls Tryz.prog 81 #[.pointer (some ⟨d, 0, none⟩), nmV f.nm, nmV y] w fun e w' => e = .returned (.tuple #[]) ∧ DkM w' M (lack (lack F f.nm) y ++ [{ f with nm := y }]) ∧ Kp [M] w w' := by
  have hx : f.nm.length ≤ 100 := h.map.short _ (List.mem_map.2 ⟨f, hf, rfl⟩)
  obtain ⟨v, hlook, hv1, hv2⟩ := h.map.look f.nm hx false
  have hc := h.cell
  have hfv := hv1 f hf rfl
  obtain ⟨fa, fc, ef, _⟩ := owns_forms (h.each f hf)
  unfold flV at hfv
  rw [ef] at hfv
  subst hfv
  simp only [Bool.false_eq_true, if_false] at hlook
  have hdlt : d < w.heap.size := heap_lt h.blk
  have hdM : d ≠ M := by
    obtain ⟨es, ck, e⟩ := h.map.block
    exact cells_mapD h.blk e
  obtain ⟨xv, hxv⟩ : ∃ xv, nmV f.nm = xv := ⟨_, rfl⟩
  obtain ⟨yv, hyv⟩ : ∃ yv, nmV y = yv := ⟨_, rfl⟩
  have hlook' := hlook
  rw [hxv] at hlook' ⊢
  rw [hyv]
  obtain ⟨W2, hW2⟩ : ∃ W2, w.alloc (.cells #[.slice fa f.bs.length fc, .bool f.sy] 120) = W2 := ⟨_, rfl⟩
  have k2 : Kp [] w W2 := by rw [← hW2]; exact (Kp.refl _ _).alloc _
  have hb2 : W2.heap[w.heap.size]? = some (.cells #[.slice fa f.bs.length fc, .bool f.sy] 120 (0, 0)) := by rw [← hW2]; exact heap_alloc_new w _
  have hc2 := k2.cellv hc (by simp)
  obtain ⟨W3, hrun, hm3, k3⟩ := (h.map.kp k2 (by simp)).drop f.nm hx 0
  have hMlt := h.map.lt
  have hb3 := k3.heap hb2 (by simp; omega)
  obtain ⟨c0, c1, f0, f1⟩ := rd_cells hb3
  have hc3 := k3.cellv hc2 (by simpa using hdM)
  have hlen := lack_len F f.nm h.map.nodup
  obtain ⟨W4, hrun4, hm4, k4⟩ := (show DkM W3.drew M _ from hm3.kp ((Kp.refl [] W3).drewN 1) (by simp)).store (by have := h.few; omega) { f with nm := y } hy
  have hrun' : (Instr.mapUpdate 118 (.map (some M)) yv (.agg #[.slice fa f.bs.length fc, .bool f.sy])).run Tryz.prog W3.drew = .ok () W4 := by
    rw [← hyv, ← ef]; exact hrun4
  have hk : Kp [M] w W4 := ((k2.mono (by simp)).next k3).next ((((Kp.refl [M] W3).drewN 1)).next k4)
  rw [hxv] at hrun
  rw [ef] at hm4
  have HM4 := hide hm4
  clear h hb2 hv1 hv2 hlook hb3 hm3 hrun4 hlen hm4
  go_enter Tryz.func81, Tryz.ntmps81
  go_wp2_with (first | simp only [hlook'] | simp only [hW2] | simp only [hrun])
  clear hW2
  go_region_with (simp only [hrun'])
  all_goals
    go_wp2_with (simp only [hrun'])
    go_end0
    exact ⟨rfl, by rw [ef]; exact HM4.out, hk⟩
/-- What a file that is written comes to. -/
theorem DkM.wrote {w w1 : World} {M : Nat} {F : List Fl} (h : DkM w M F) (k : Kp [] w w1) (hf : F.length ≤ 10000000) {x l : List UInt8} (hx : x.length ≤ 100) {v' : Value} (hv : w1.ownsRow w.heap.size 5 1 v' l.length (byV l)) {xv : Value} (hxv : nmV x = xv) :
    ∃ w', (Instr.mapUpdate 118 (.map (some M)) xv (.agg #[v', .bool false])).run Tryz.prog w1 = .ok () w' ∧ w'.ownsRow w.heap.size 5 1 v' l.length (byV l) ∧ DkM w' M (lack F x ++ [⟨x, l, v', false⟩]) ∧ Kp [M] w w' := by
  obtain ⟨w', hrun, hm, hk⟩ := (h.kp k (by simp)).store (by omega) ⟨x, l, v', false⟩ hx
  rw [hxv] at hrun
  refine ⟨w', hrun, hk.owns hv (fun g hg hx => ?_), hm, (k.mono (by simp)).next hk⟩
  have h1 := (hv.lt g hg).1
  have h2 := h.lt
  simp at hx
  omega
/-- Write. -/
theorem dwrite_any (B d M : Nat) (F : List Fl) (x l : List UInt8) (v : Value) (w : World) (h : DiskIs w B d M F) (hx : x.length ≤ 100) (hv : w.ownsRow B 5 1 v l.length (byV l)) (hl : l.length ≤ 100000000) :
    Calls Tryz.prog 40 #[.pointer (some ⟨d, 0, none⟩), nmV x, v] w fun e w' => e = .returned (.tuple #[]) ∧ ∃ v', w'.ownsRow w.heap.size 5 1 v' l.length (byV l) ∧ DkM w' M (lack F x ++ [⟨x, l, v', false⟩]) ∧ Kp [M] w w' := by
  have hcl := clone_any B v l w.drew hv.drew hl
  have hc := h.cell
  have hfew := h.few
  have HM := hide h.map
  obtain ⟨xv, hxv⟩ : ∃ xv, nmV x = xv := ⟨_, rfl⟩
  rw [hxv]
  have kd : Kp [] w w.drew := (Kp.refl _ _).drewN 1
  clear h
  go_enter Tryz.func40, Tryz.ntmps40
  go_region_with (first
    | simp only [hrun]
    | (go_at_call 60; refine hcl.mono ?_; rintro e w1 ⟨v', rfl, hv', k1⟩; have k01 := kd.next k1; have hc1 := k01.cellv hc (by simp); obtain ⟨a', c', rfl, _⟩ := owns_forms hv'; obtain ⟨w2, hrun, h2, hm2, k2⟩ := HM.out.wrote k01 hfew hx hv' hxv))
  all_goals
    go_wp2_with (simp only [hrun])
    go_end0
    exact ⟨rfl, _, h2, hm2, k2⟩
/-- Bytes. -/
theorem dbytes_any (B d M : Nat) (F : List Fl) (x : List UInt8) (w : World) (h : DiskIs w B d M F) (hx : x.length ≤ 100) :
    Calls Tryz.prog 25 #[.pointer (some ⟨d, 0, none⟩), nmV x] w fun e w' => ∃ v', e = .returned (.tuple #[v', .bool (decide (x ∈ nms F))]) ∧ (∃ a n c, v' = .slice a n c) ∧ (∀ f ∈ F, f.nm = x → w'.ownsRow w.heap.size 5 1 v' f.bs.length (byV f.bs)) ∧ Kp [] w w' := by
  obtain ⟨v, hlook, hv1, hv2⟩ := h.map.look x hx true
  have hc := h.cell
  have hall : ∃ (v0 : Value) (l : List UInt8) (s0 : Bool), v = .agg #[v0, .bool s0] ∧ w.ownsRow B 5 1 v0 l.length (byV l) ∧ l.length ≤ 100000000 ∧ ∀ f ∈ F, f.nm = x → f.bs = l := by
    by_cases hm : x ∈ nms F
    · obtain ⟨f, hf, e⟩ := List.mem_map.1 hm
      refine ⟨f.v, f.bs, f.sy, hv1 f hf e, h.each f hf, h.small f hf, fun g hg e2 => ?_⟩
      have hnd := h.map.nodup
      have : g = f := by
        have h1 : nms F = F.map Fl.nm := rfl
        rw [h1] at hnd
        exact inj_nodup hnd g hg f hf (e2.trans e.symm)
      rw [this]
    · exact ⟨.slice none 0 0, [], false, hv2 hm, World.ownsRow_nil _ _ _ _, by simp, fun f hf e => absurd (List.mem_map.2 ⟨f, hf, e⟩) hm⟩
  obtain ⟨v0, l, s0, rfl, hv0, hl, hfl⟩ := hall
  obtain ⟨a0, c0, e0, _⟩ := owns_forms hv0
  subst e0
  obtain ⟨r, hr⟩ : ∃ r, decide (x ∈ nms F) = r := ⟨_, rfl⟩
  rw [hr] at hlook ⊢
  obtain ⟨xv, hxv⟩ : ∃ xv, nmV x = xv := ⟨_, rfl⟩
  rw [hxv] at hlook ⊢
  obtain ⟨W1, hW1⟩ : ∃ W1, w.alloc (.cells #[.slice a0 l.length c0, .bool s0] 120) = W1 := ⟨_, rfl⟩
  have k1 : Kp [] w W1 := by rw [← hW1]; exact (Kp.refl _ _).alloc _
  have hb1 : W1.heap[w.heap.size]? = some (.cells #[.slice a0 l.length c0, .bool s0] 120 (0, 0)) := by rw [← hW1]; exact heap_alloc_new w _
  obtain ⟨d0, d1, f0, f1⟩ := rd_cells hb1
  have hs1 : W1.heap.size = w.heap.size + 1 := by rw [← hW1]; simp
  have hcl := clone_any B _ l W1.drew (k1.owns hv0 (by simp)).drew hl
  have hcl0 := clone_any B _ l W1 (k1.owns hv0 (by simp)) hl
  clear h hv1 hv2 hb1 hv0
  go_enter Tryz.func25, Tryz.ntmps25
  go_wp2_with (first | simp only [hlook] | simp only [hW1])
  refine hcl0.mono ?_
  rintro e w2 ⟨v', rfl, hv', k2⟩
  have hk := k1.next k2
  have hv'' : w2.ownsRow w.heap.size 5 1 v' l.length (byV l) := ownsRow_base_a hv' (by omega)
  obtain ⟨a', c', rfl, _⟩ := owns_forms hv'
  clear hcl hcl0 hlook
  go_wp2_with fail
  go_ret2
  exact ⟨_, rfl, ⟨_, _, _, rfl⟩, fun f hf e => by rw [hfl f hf e]; exact hv'', hk⟩
/-- File. -/
theorem file_any (X B d M : Nat) (F : List Fl) (x : List UInt8) (w : World) (hX : w.cell? ⟨X, 2, none⟩ = some (.pointer (some ⟨d, 0, none⟩))) (h : DiskIs w B d M F) (hx : x.length ≤ 100) :
    Calls Tryz.prog 10 #[.pointer (some ⟨X, 0, none⟩), nmV x] w fun e w' => ∃ v', e = .returned (.tuple #[v', .int .i64 (if x ∈ nms F then 0 else 6)]) ∧ (∃ a n c, v' = .slice a n c) ∧ (∀ f ∈ F, f.nm = x → w'.ownsRow w.heap.size 5 1 v' f.bs.length (byV f.bs)) ∧ Kp [] w w' := by
  have hb := dbytes_any B d M F x w h hx
  obtain ⟨r, hr⟩ : ∃ r, decide (x ∈ nms F) = r := ⟨_, rfl⟩
  have hnone : r = false → ∀ f ∈ F, f.nm = x → False := fun e f hf e2 => by
    rw [e] at hr
    exact absurd (List.mem_map.2 ⟨f, hf, e2⟩) (of_decide_eq_false hr)
  have hif : (if x ∈ nms F then (0 : Int) else 6) = if r then 0 else 6 := by
    by_cases hm : x ∈ nms F
    · rw [if_pos hm]; rw [decide_eq_true hm] at hr; subst hr; rfl
    · rw [if_neg hm]; rw [decide_eq_false hm] at hr; subst hr; rfl
  rw [hif]
  rw [hr] at hb
  obtain ⟨xv, hxv⟩ : ∃ xv, nmV x = xv := ⟨_, rfl⟩
  rw [hxv] at hb ⊢
  clear h hif hr
  go_enter Tryz.func10, Tryz.ntmps10
  go_wp2_with fail
  refine hb.mono ?_
  rintro e w2 ⟨v', rfl, ⟨a, n, c, rfl⟩, hv', k2⟩
  clear hb
  cases r
  · go_wp2_with fail
    go_ret2
    exact ⟨_, rfl, ⟨_, _, _, rfl⟩, fun f hf e => (hnone (by trivial) f hf e).elim, k2⟩
  · go_wp2_with fail
    go_ret2
    exact ⟨_, rfl, ⟨_, _, _, rfl⟩, hv', k2⟩
end Go.Proofs.YtnffagpdnklnkaaGreatDoor.Pak
