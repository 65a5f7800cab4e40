import Derived.Test.YtnffagpdnklnkaaGreatDoorV24
import Derived.Test.YtnffagpdnklnkaaGreatDoorV19
import Derived.Test.YtnffagpdnklnkaaGreatDoorV22
import Derived.Test.YtnffagpdnklnkaaGreatDoorV05
import Derived.Test.YtnffagpdnklnkaaGreatDoorV17
import Derived.Test.YtnffagpdnklnkaaGreatDoorV07
import Derived.Shelf.LaysM
import Derived.Shelf.Strconv.Itoa3
import Derived.Test.YtnffagpdnklnkaaGreatDoorProg
import Derived.Lib.ItoaLen
set_option linter.unusedVariables false
set_option linter.unusedSimpArgs false
set_option maxRecDepth 8000
namespace Go.Proofs.YtnffagpdnklnkaaGreatDoor.Pak
open Go.RowKit Go.Proofs.YtnffagpdnklnkaaGreatDoor Go.Proofs.YtnffagpdnklnkaaGreatDoor.Spl SiftM
/-- What is told of a segment. -/
def dgA (t : DSg) : List Value := [.int .i64 (t.num : Int), .int .i64 (t.T.length : Int), .int .i64 (deadN t.fl : Int), .int .i64 ((termsOf t.T).length : Int), .int .i64 ((St.refSets (termsOf t.T)).length : Int), .int .i64 ((fileT t.T).length : Int)]
def dgV (L : List DSg) : List Value := L.flatMap dgA
theorem dgV_take (L : List DSg) (i : Nat) (h : i < L.length) : dgV (L.take (i + 1)) = dgV (L.take i) ++ dgA L[i] := by
  unfold dgV
  rw [List.take_succ_eq_append_getElem h, List.flatMap_append]
  simp
theorem pop_more : ∀ (f n x : Nat), x < 2 ^ n → n ≤ f → Lib.popAux f x = Lib.popAux n x
  | 0, n, x, _, hn => by
    have : n = 0 := by omega
    subst this; rfl
  | f + 1, 0, x, hx, _ => by
    have : x = 0 := by omega
    subst this
    have e : ∀ f, Lib.popAux f 0 = 0 := by
      intro f
      induction f with
      | zero => rfl
      | succ f ih => simp [Lib.popAux, ih]
    exact e (f + 1)
  | f + 1, n + 1, x, hx, hn => by
    have := pop_more f n (x / 2) (by rw [Nat.pow_succ] at hx; omega) (by omega)
    simp only [Lib.popAux, this]
theorem pop_flags : ∀ (n x : Nat), Lib.popAux n x = deadN ((List.range n).map fun d => x.testBit d)
  | 0, x => rfl
  | n + 1, x => by
    have ih := pop_flags n (x / 2)
    rw [List.range_succ_eq_map, List.map_cons, List.map_map]
    have e : ((List.range n).map ((fun d => x.testBit d) ∘ Nat.succ)) = (List.range n).map fun d => (x / 2).testBit d := by
      apply List.map_congr_left
      intro d _
      simp only [Function.comp, Nat.succ_eq_add_one, Nat.testBit_succ]
    rw [e]
    simp only [Lib.popAux, ih]
    have e2 : ∀ (b : Bool) (l : List Bool), deadN (b :: l) = b.toNat + deadN l := by
      intro b l
      cases b <;> simp [deadN]; omega
    rw [e2, Nat.testBit_zero]
    congr 1
    rcases Nat.mod_two_eq_zero_or_one x with h | h <;> simp [h]
theorem ones_flags {w : World} {t : PPt} (h : PartIs w t) : Lib.onesCount t.dead = deadN t.flags := by
  unfold Lib.onesCount PPt.flags
  rw [pop_more 64 t.T.length t.dead h.dlo (by have := h.fine.len; omega), pop_flags]

theorem more_le {α : Type} [DecidableEq α] (l : List α) (e : α) : (St.more l e).length ≤ l.length + 1 := by
  unfold St.more
  split <;> simp
theorem mores_le {α : Type} [DecidableEq α] (es l : List α) : (St.mores l es).length ≤ l.length + es.length := by
  induction es generalizing l with
  | nil => exact Nat.le_refl _
  | cons e es ih =>
    have h1 := ih (St.more l e)
    have h2 := more_le l e
    unfold St.mores at h1 ⊢
    simp only [List.foldl_cons, List.length_cons]
    omega
theorem flat_le {α β : Type} (f : α → List β) (k : Nat) : ∀ (l : List α), (∀ x ∈ l, (f x).length ≤ k) → (l.flatMap f).length ≤ k * l.length
  | [], _ => by simp
  | x :: r, h => by
    have h1 := flat_le f k r fun y hy => h y (by simp [hy])
    have h2 := h x (by simp)
    rw [List.flatMap_cons, List.length_append, List.length_cons, Nat.mul_succ]
    omega
theorem sets_le {T : List Tx} (h : Fine T) : (St.refSets (termsOf T)).length ≤ 1000000000 := by
  have h1 := allW_le T (fun t ht => h.few t ht)
  have h2 := h.len
  obtain ⟨F, hF⟩ : ∃ F : St.Bt → List St.Bt, F = fun t => (List.range (t.length + 1)).map fun n => St.endings (termsOf T) (t.take n) := ⟨_, rfl⟩
  have h4 : (St.refSets (termsOf T)).length ≤ 0 + ((termsOf T).flatMap F).length := by rw [hF]; exact mores_le _ _
  have h3 := flat_le F 9 (termsOf T) (fun t ht => by have := fine_word T h t ht; rw [hF]; simp; omega)
  omega

set_option maxHeartbeats 8000000 in
/-- The program's Segments. -/
theorem segments_any (X B n : Nat) (O : List Nat) (s : PSt) (w : World) (h : PIs w X B O s) (hn : s.Ps.length = n) (hb : n ≤ 1000000) :
    Calls Tryz.prog 7 #[.pointer (some ⟨X, 0, none⟩)] w fun e w' => ∃ a c, e = .returned (.tuple #[.slice a n c, .int .i64 0]) ∧ w'.ownsRow w.heap.size 41 6 (.slice a n c) n (dgV s.abs.L) ∧ Kp [] w w' := by
  obtain ⟨i0, hi0, hz0, hz1, hz2⟩ := info_parts info277
  obtain ⟨x0, x6, x7, x8, x9, x10, xf⟩ := px_cells h
  obtain ⟨ag, cp, ep, hag⟩ := owns_forms h.parts
  have hL : s.abs.L.length = n := by rw [← hn]; simp [PSt.abs]
  rw [hn] at ep hag
  rw [ep] at x8
  have hrow := h.parts
  rw [ep, hn] at hrow
  have HW := hide hrow
  have HE := hide h.each
  have HN := hide hn
  have HL := hide hL
  clear h hrow hn hL x0 x7 x9 x10 xf ep
  go_enter Tryz.func7, Tryz.ntmps7
  go_wp2_with fail
  go_loopw [4, 16] (fun ov iv wr => ∃ (i : Nat) (a : Option Addr) (c : Nat), i ≤ n ∧ iv = .int .i64 (i : Int) ∧ ov = .slice a i c ∧ wr.ownsRow w.heap.size 41 6 (.slice a i c) i (dgV (s.abs.L.take i)) ∧ Kp [] w wr) (fun _ iv _ => n - (intOf iv).toNat)
  case atStart => exact ⟨0, none, 0, by omega, rfl, rfl, World.ownsRow_nil _ _ _ _, Kp.refl _ _⟩
  case round =>
    obtain ⟨i, a, c, hi, rfl, rfl, ho, hkp⟩ := hrel
    by_cases hlt : i < n
    · obtain ⟨g, rfl⟩ := hag (by omega)
      have hiL : i < s.Ps.length := by rw [HN.out]; exact hlt
      have hpc := ptV_cell (hkp.owns HW.out (by simp)) i hiL
      have hpt := (HE.out _ (List.getElem_mem hiL)).kp0 hkp
      have hta := dgV_take s.abs.L i (by rw [HL.out]; exact hlt)
      have hel : s.abs.L[i]'(by rw [HL.out]; exact hlt) = (s.Ps[i]).abs := by simp [PSt.abs]
      rw [hel] at hta
      obtain ⟨t, ht⟩ : ∃ t, s.Ps[i] = t := ⟨_, rfl⟩
      rw [ht] at hpc hpt hta
      obtain ⟨p0, p1⟩ := part_two hpt
      have hns : (St.refSets (termsOf t.T)).length ≤ 1000000000 := sets_le hpt.fine
      have hpd := hpt.kp0 (w' := wr.drew) ⟨rfl, rfl, rfl, Nat.le_refl _, fun _ _ _ => rfl⟩
      have hab := about_any t.q t.num t.T.length (termsOf t.T).length (St.refSets (termsOf t.T)).length ((bodyT t.T).length + 4) t.dead wr.drew hpd.seg.segC hpd.dlt hns
      rw [ones_flags hpt, ← show (fileT t.T).length = (bodyT t.T).length + 4 by unfold fileT; rw [List.length_append, sumB_len]] at hab
      have j1 : (0 : Int) ≤ (i : Int) := by omega
      have j2 : (i : Int) < (n : Int) := by omega
      have HO := hide ho
      have HT := hide hta
      obtain ⟨A, hA⟩ : ∃ A, dgA t.abs = A := ⟨_, rfl⟩
      have p0d : wr.drew.cell? ⟨t.p, 0, none⟩ = some (.pointer (some ⟨t.q, 0, none⟩)) := p0
      have p1d : wr.drew.cell? ⟨t.p, 1, none⟩ = some (.int .u64 (t.dead : Int)) := p1
      have kd : Kp [] w wr.drew := hkp.next ⟨rfl, rfl, rfl, Nat.le_refl _, fun _ _ _ => rfl⟩
      have krd : Kp [] wr wr.drew := ⟨rfl, rfl, rfl, Nat.le_refl _, fun _ _ _ => rfl⟩
      clear ho hpt hpd hta hel ht
      go_wp2_with fail
      go_region_law (first
        | (refine step_append_lies _ (by rfl) _ _ _ (by rfl) w.heap.size 41 i0 _ 6 48 Tryz.underlying34 hi0 hz0 hz1 hz2 rfl (by omega) (.slice a i c) i (dgV (s.abs.L.take i)) (by rfl) (HO1.out.alloc _) ⟨w1.heap.size, 0, none⟩ 1 1 [.int .i64 (t.num : Int), .int .i64 (t.T.length : Int), .int .i64 (deadN t.flags : Int), .int .i64 ((termsOf t.T).length : Int), .int .i64 ((St.refSets (termsOf t.T)).length : Int), .int .i64 ((fileT t.T).length : Int)] (by rfl) (by rfl) (World.news_of_block (cs := #[.int .i64 (t.num : Int), .int .i64 (t.T.length : Int), .int .i64 (deadN t.flags : Int), .int .i64 ((termsOf t.T).length : Int), .int .i64 ((St.refSets (termsOf t.T)).length : Int), .int .i64 ((fileT t.T).length : Int)]) (t := 41) (fr := (0, 0)) (heap_alloc_new w1 _)) (by simp [Value.oneCell']) (by omega) (by unfold maxLen; omega) (by omega) (by simp; omega) (w1.heap.size + 1) (by simp) ?_; intro g3 cap w3 hown3 hgrow hat hlt3)
        | (go_simp; refine hab.mono ?_; rintro e w1 ⟨rfl, k1⟩; have HO1 := hide ((krd.next k1).owns HO.out (by simp)); have hz1' := (kd.next k1).size; try go_simp))
      all_goals
        go_wp2_with fail
        have k3 : Kp (Value.slice a i c).ownBlock.toList w1 w3 := ((Kp.refl _ _).alloc _).grown hgrow (fun j hj => .inl (by simp [hj]))
        have kf : Kp [] w w3 := (kd.next k1).trans k3 (fun y hy => .inr (HO1.out.lt y (by simpa using hy)).1)
        refine ⟨⟨i + 1, some ⟨g3, 0, none⟩, cap, by omega, by go_num, rfl, ?_, kf⟩, ?_⟩
        · rw [HT.out]
          exact hown3
        · simp [intOf]; omega
    · have hin : i = n := by omega
      subst hin
      go_wp2_with fail
      go_ret2
      exact ⟨a, c, rfl, by rw [List.take_of_length_le (by rw [HL.out]; exact Nat.le_refl _)] at ho; exact ho, hkp⟩
end Go.Proofs.YtnffagpdnklnkaaGreatDoor.Pak
/-
  The contract of Itoa at this program: one laying, one application.
-/
namespace Go.Proofs
open Go.Shelf
def Tryz.laysM171_ren : Go.Shelf.Ren := ⟨fun | 171 => 9 | 243 => 24 | 246 => 59 | 283 => 93 | 284 => 94 | 285 => 95 | 286 => 96 | 129 => 137 | 317 => 136 | 318 => 138 | 319 => 139 | 320 => 140 | 337 => 179 | 338 => 164 | n => n, fun | 3 => 3 | 9 => 9 | 2 => 2 | 4 => 4 | 171 => 157 | 0 => 0 | 53 => 78 | 37 => 42 | 5 => 5 | 173 => 159 | 212 => 213 | 51 => 214 | 20 => 20 | 213 => 215 | 46 => 206 | 232 => 277 | 233 => 263 | n => n, fun | 17 => 0 | 18 => 2 | 19 => 1 | n => n⟩
theorem Tryz.laysM171 : Go.Proofs.LaysM.n171 Tryz.prog Tryz.laysM171_ren := {
  mixed := by kernel_rfl
  f129 := Tryz.func137.trans (congrArg some (by kernel_rfl))
  f171 := Tryz.func9.trans (congrArg some (by kernel_rfl))
  f243 := Tryz.func24.trans (congrArg some (by kernel_rfl))
  f246 := Tryz.func59.trans (congrArg some (by kernel_rfl))
  f283 := Tryz.func93.trans (congrArg some (by kernel_rfl))
  f284 := Tryz.func94.trans (congrArg some (by kernel_rfl))
  f285 := Tryz.func95.trans (congrArg some (by kernel_rfl))
  f286 := Tryz.func96.trans (congrArg some (by kernel_rfl))
  f317 := Tryz.func136.trans (congrArg some (by kernel_rfl))
  f318 := Tryz.func138.trans (congrArg some (by kernel_rfl))
  f319 := Tryz.func139.trans (congrArg some (by kernel_rfl))
  f320 := Tryz.func140.trans (congrArg some (by kernel_rfl))
  f337 := Tryz.func179.trans (congrArg some (by kernel_rfl))
  f338 := Tryz.func164.trans (congrArg some (by kernel_rfl))
  t0 := Tryz.underlying0
  a0 := Tryz.isAgg0
  z0 := Tryz.sizeOf0
  v0 := Tryz.zeroValue0
  t2 := Tryz.underlying2
  a2 := Tryz.isAgg2
  z2 := Tryz.sizeOf2
  v2 := Tryz.zeroValue2
  t3 := Tryz.underlying3
  a3 := Tryz.isAgg3
  z3 := Tryz.sizeOf3
  v3 := Tryz.zeroValue3
  t4 := Tryz.underlying4
  a4 := Tryz.isAgg4
  z4 := Tryz.sizeOf4
  v4 := Tryz.zeroValue4
  t5 := Tryz.underlying5
  a5 := Tryz.isAgg5
  z5 := Tryz.sizeOf5
  v5 := Tryz.zeroValue5
  t9 := Tryz.underlying9
  a9 := Tryz.isAgg9
  z9 := Tryz.sizeOf9
  v9 := Tryz.zeroValue9
  t20 := Tryz.underlying20
  a20 := Tryz.isAgg20
  z20 := Tryz.sizeOf20
  v20 := Tryz.zeroValue20
  t37 := Tryz.underlying42
  a37 := Tryz.isAgg42
  z37 := Tryz.sizeOf42
  v37 := Tryz.zeroValue42
  t46 := Tryz.underlying206
  a46 := Tryz.isAgg206
  z46 := Tryz.sizeOf206
  v46 := Tryz.zeroValue206
  t51 := Tryz.underlying214
  a51 := Tryz.isAgg214
  z51 := Tryz.sizeOf214
  v51 := Tryz.zeroValue214
  t53 := Tryz.underlying78
  a53 := Tryz.isAgg78
  z53 := Tryz.sizeOf78
  v53 := Tryz.zeroValue78
  t171 := Tryz.underlying157
  a171 := Tryz.isAgg157
  z171 := Tryz.sizeOf157
  v171 := Tryz.zeroValue157
  t173 := Tryz.underlying159
  a173 := Tryz.isAgg159
  z173 := Tryz.sizeOf159
  v173 := Tryz.zeroValue159
  t212 := Tryz.underlying213
  a212 := Tryz.isAgg213
  z212 := Tryz.sizeOf213
  v212 := Tryz.zeroValue213
  t213 := Tryz.underlying215
  a213 := Tryz.isAgg215
  z213 := Tryz.sizeOf215
  t232 := Tryz.underlying277
  a232 := Tryz.isAgg277
  z232 := Tryz.sizeOf277
  v232 := Tryz.zeroValue277
  t233 := Tryz.underlying263
  a233 := Tryz.isAgg263
  z233 := Tryz.sizeOf263
  v233 := Tryz.zeroValue263
  g17 := by kernel_rfl
  g18 := by kernel_rfl
  g19 := by kernel_rfl
  i0 := by kernel_rfl
  i2 := by kernel_rfl
  i3 := by kernel_rfl
  i4 := by kernel_rfl
  i5 := by kernel_rfl
  i9 := by kernel_rfl
  i20 := by kernel_rfl
  i37 := by kernel_rfl
  i46 := by kernel_rfl
  i51 := by kernel_rfl
  i53 := by kernel_rfl
  i171 := by kernel_rfl
  i173 := by kernel_rfl
  i212 := by kernel_rfl
  i232 := by kernel_rfl
  i233 := by kernel_rfl
  m17 := by kernel_rfl
  m18 := by kernel_rfl
  m19 := by kernel_rfl }
open Go.RowKit Go.Sort Go.Lib in
theorem Tryz.strconv_Itoa (n : Int) (h0 : -9223372036854775808 ≤ n) (h1 : n ≤ 9223372036854775807) (w : World) (htab : Lib.TabIs Tryz.prog w "internal/strconv.uint64pow10" .u64 Lib.pow10Tab) :
    Calls Tryz.prog 9 #[.int .i64 n] w fun e w' => e = .returned (.string ⟨(Lib.itoa n).toArray⟩) ∧ ∃ k os, w' = grow (w.drewN k) os := Any.strconv_Itoa Tryz.laysM171 n h0 h1 w htab
end Go.Proofs

namespace Go.Proofs.YtnffagpdnklnkaaGreatDoor.Pak
open Go.RowKit Go.Proofs.YtnffagpdnklnkaaGreatDoor Go.Proofs.YtnffagpdnklnkaaGreatDoor.Spl SiftM
/-- The table of the powers of ten is laid. -/
def TabP (w : World) : Prop := Lib.TabIs Tryz.prog w "internal/strconv.uint64pow10" .u64 Lib.pow10Tab
theorem gPow : Tryz.prog.globalNamed "internal/strconv.uint64pow10" = some 0 := by kernel_rfl
theorem TabP.kp {S : List Nat} {w w' : World} (h : TabP w) (k : Kp S w w') (h0 : 0 ∉ S) : TabP w' := by
  unfold TabP Lib.TabIs World.var? at h ⊢
  rw [gPow] at h ⊢
  simp only [Option.bind_some] at h ⊢
  have hlt : 0 < w.heap.size := by
    rcases Nat.eq_zero_or_pos w.heap.size with e | e
    · have : w.heap[0]? = none := Array.getElem?_eq_none (by omega)
      rw [this] at h
      simp at h
    · exact e
  rw [k.block 0 hlt h0]
  exact h
/-- A number's digits. -/
def digs (n : Nat) : List UInt8 := Lib.itoa (n : Int)
theorem digs_le (n : Nat) (hn : n ≤ 1000000000000) : (digs n).length ≤ 21 := Lib.itoa_length_le (n : Int) (by omega) (by omega)
def segN (n : Nat) : List UInt8 := 115 :: digs n
def comN (n : Nat) : List UInt8 := 99 :: digs n
theorem kp_growN (w : World) (k : Nat) (os : Array Obj) : Kp [] w (Sort.grow (w.drewN k) os) := Kp.of_below _ ⟨rfl, rfl, rfl, by show w.heap.size ≤ (w.heap ++ os).size; rw [Array.size_append]; omega, fun _ hj => Sort.heap_grow_old (w.drewN k) os hj⟩
theorem itoa_any (n : Nat) (w : World) (h : TabP w) (hn : n ≤ 1000000000000) :
    Calls Tryz.prog 9 #[.int .i64 (n : Int)] w fun e w' => e = .returned (nmV (digs n)) ∧ Kp [] w w' := by
  refine (Tryz.strconv_Itoa (n : Int) (by omega) (by omega) w h).mono ?_
  rintro e w' ⟨rfl, k, os, rfl⟩
  exact ⟨rfl, kp_growN w k os⟩
theorem cat_nm (c : UInt8) (l : List UInt8) : (Value.string (ByteArray.mk #[c] ++ ByteArray.mk l.toArray)) = nmV (c :: l) := by
  unfold nmV
  congr 1
theorem segN_any (n : Nat) (w : World) (h : TabP w) (hn : n ≤ 1000000000000) :
    Calls Tryz.prog 36 #[.int .i64 (n : Int)] w fun e w' => e = .returned (nmV (segN n)) ∧ Kp [] w w' := by
  have hc := itoa_any n w h hn
  have hd : ¬ 9223372036854775807 < 1 + (digs n).length := by have := digs_le n hn; omega
  unfold nmV at hc
  go_enter Tryz.func36, Tryz.ntmps36
  go_wp2_with fail
  refine hc.mono ?_
  rintro e w1 ⟨rfl, k1⟩
  clear hc
  go_wp2_with fail
  go_ret
  exact ⟨congrArg Ending.returned (cat_nm 115 (digs n)), k1⟩
theorem comN_any (n : Nat) (w : World) (h : TabP w) (hn : n ≤ 1000000000000) :
    Calls Tryz.prog 82 #[.int .i64 (n : Int)] w fun e w' => e = .returned (nmV (comN n)) ∧ Kp [] w w' := by
  have hc := itoa_any n w h hn
  have hd : ¬ 9223372036854775807 < 1 + (digs n).length := by have := digs_le n hn; omega
  unfold nmV at hc
  go_enter Tryz.func82, Tryz.ntmps82
  go_wp2_with fail
  refine hc.mono ?_
  rintro e w1 ⟨rfl, k1⟩
  clear hc
  go_wp2_with fail
  go_ret
  exact ⟨congrArg Ending.returned (cat_nm 99 (digs n)), k1⟩
end Go.Proofs.YtnffagpdnklnkaaGreatDoor.Pak
namespace Go.Proofs.YtnffagpdnklnkaaGreatDoor.Pak
open Go.RowKit Go.Proofs.YtnffagpdnklnkaaGreatDoor Go.Proofs.YtnffagpdnklnkaaGreatDoor.Spl SiftM Go.Maps Go.Sort Go.Shelf
theorem sortsS (m : Nat) : AnyZ.SortsIn Tryz.prog Tryz.laysZ6_ren Fence.wide m :=
  ⟨fun blk off cap ss W hH hblk hsz => callsIn_wide.2 (Tryz.slices_Sort_string blk off cap ss W hH hblk hsz),
   fun p cap W => callsIn_wide.2 (Tryz.slices_Sort_string_none p cap W)⟩
def sortN (l : List (List UInt8)) : List (List UInt8) := l.mergeSort fun x y => decide (x ≤ y)
def nmL (l : List (List UInt8)) : List Value := l.map nmV
set_option maxHeartbeats 1000000 in
/-- Names. -/
theorem dnames_any (B d M : Nat) (F : List Fl) (w : World) (h : DiskIs w B d M F) :
    Calls Tryz.prog 23 #[.pointer (some ⟨d, 0, none⟩)] w fun e w' => ∃ v, e = .returned v ∧ w'.ownsRow w.heap.size 9 1 v F.length (nmL (sortN (nms F))) ∧ Kp [] w w' := by
  obtain ⟨D, hown, hsz, hperm⟩ := h.map.keys
  have hc := h.cell
  have hfew := h.few
  refine (callsIn_wide (n := 6)).1 ?_
  have hbl := hown.lt
  have hseq : SeqGives Fence.wide 2 Tryz.prog 92 #[.pointer (some ⟨w.heap.size, 0, none⟩)] encStr (fun ss => ss.Perm (strKeys D)) (Maps.size D) (w.alloc (.cells #[.map (some M)] 118)) :=
    AnyZ.keys_gives (ρ := Tryz.laysZ7_ren) { Tryz.laysZ7 with } Fence.wide _ trivial rfl (by omega) w.heap.size M F.length D _ (by simp) (by simp) (by
      obtain ⟨es, clock, hb, Ft, hs, hD⟩ := hown
      exact ⟨es, clock, (Below.heap_alloc _ _ M hbl).trans hb, Ft, hs, hD⟩)
  have cK : ∀ mb W, CallsIn Fence.wide 5 Tryz.prog 58 #[.map mb] W fun e w' => e = .returned (.func (.func 92) #[] #[.pointer (some ⟨W.heap.size, 0, none⟩)]) ∧ w' = W.alloc (.cells #[.map mb] 118) := fun mb W => AnyZ.keys_in Tryz.laysZ7 Fence.wide 5 trivial rfl mb W
  have cS := AnyZ.sorted_in Tryz.laysZ6 Fence.wide 5 trivial trivial trivial trivial rfl (by omega) (sortsS _) (enters_of Tryz.func91 (by kernel_rfl) rfl) 92 #[.pointer (some ⟨w.heap.size, 0, none⟩)] trivial (enters_of Tryz.func92 (by kernel_rfl) rfl) _ _ (by unfold maxLen; omega) (by omega) _ hseq
  change CallsIn _ _ Tryz.prog 57 _ _ _ at cS
  have hfK : Fence.wide.fn 58 := trivial
  have hfS : Fence.wide.fn 57 := trivial
  clear h hown
  refine callsIn_of_wp Tryz.func23 rfl trivial ?_ rfl
  simp only [Tryz.ntmps23, List.size_toArray, List.length_cons, List.length_nil, Nat.reduceAdd, Nat.reduceSub, Array.replicate_succ, Array.replicate_zero, List.push_toArray, List.append_toArray, List.nil_append, List.cons_append]
  gi_wp2_with (first
    | (gi_at_call 58; refine (cK _ _).mono ?_; rintro e w' ⟨rfl, rfl⟩)
    | (gi_at_call 57; refine cS.mono ?_; rintro e w' ⟨v, ss, rfl, hS, hrow, hnil, hb⟩))
  go_ret
  have hp : ss.Perm (nms F) := hS.trans hperm
  have hl2 : ss.length = F.length := by rw [hp.length_eq]; simp [nms]
  have he : (ss.mergeSort (fun x y => decide (x ≤ y))) = sortN (nms F) := mergeSort_of_perm hp
  refine ⟨v, rfl, ?_, Kp.of_below _ (((Below.refl _ w).alloc (Nat.le_refl _) _).trans (hb.mono (by simp)))⟩
  have hr := ownsRow_base_a (base' := w.heap.size) hrow (by simp)
  rw [hl2, he] at hr
  exact hr
/-- Files. -/
theorem files_any (X B d M : Nat) (F : List Fl) (w : World) (hX : w.cell? ⟨X, 2, none⟩ = some (.pointer (some ⟨d, 0, none⟩))) (h : DiskIs w B d M F) :
    Calls Tryz.prog 8 #[.pointer (some ⟨X, 0, none⟩)] w fun e w' => ∃ v, e = .returned v ∧ w'.ownsRow w.heap.size 9 1 v F.length (nmL (sortN (nms F))) ∧ Kp [] w w' := by
  have hn := dnames_any B d M F w h
  clear h
  go_enter Tryz.func8, Tryz.ntmps8
  go_wp2_with fail
  refine hn.mono ?_
  rintro e w1 ⟨v, rfl, hv, k⟩
  clear hn
  obtain ⟨a', c', rfl, _⟩ := owns_forms hv
  go_wp2_with fail
  go_ret
  exact ⟨_, rfl, hv, k⟩
/-- Some blocks are as they were. -/
def KRw (S : List Nat) (W W' : World) : Prop := ∀ g ∈ S, W'.heap[g]? = W.heap[g]?
theorem krw_t {S : List Nat} {A B C : World} (h1 : KRw S A B) (h2 : KRw S B C) : KRw S A C := fun g hg => (h2 g hg).trans (h1 g hg)
theorem krw_b {S : List Nat} {n : Nat} (hn : ∀ g ∈ S, g < n) (W : World) (l : Nat) (o o' : Obj) (hl : n ≤ l) (ho : W.heap[l]? = some o) (h1 : o.isCells = false) (h2 : o.isWalk = false) : KRw S W (W.putObj l o') := by
  intro g hg
  have := hn g hg
  unfold World.putObj
  simp only
  rw [Array.getElem?_setIfInBounds_ne (by omega)]
def nmE (x : List UInt8) : Array Value := #[nmV x]
theorem values_any (v : Value) (w : World) (hv : ∃ a n c, v = .slice a n c) :
    Calls Tryz.prog 83 #[v] w fun e w' => e = .returned (.func (.func 129) #[] #[.pointer (some ⟨w.heap.size, 0, none⟩)]) ∧ w' = w.alloc (.cells #[v] 37) := by
  obtain ⟨a, n, c, rfl⟩ := hv
  go_enter Tryz.func83, Tryz.ntmps83
  go_wp2_with fail
  go_ret
  exact ⟨rfl, rfl⟩
set_option maxRecDepth 100000 in
set_option maxHeartbeats 1000000 in
/-- What slices.Values hands back, called. -/
theorem values1_in (n : Nat) (hn : 1 ≤ n) (l Bn B : Nat) (L : List (List UInt8)) (v : Value) (hlen : L.length ≤ 1000000000) (J Jx : List (List UInt8) → World → Prop) (S : List Nat) (hS : ∀ g, v.ownBlock = some g → g ∈ S)
    (hY : ∀ pre x W, J pre W → pre.length < L.length → YieldAt Fence.wide (n - 1) Tryz.prog l (nmE x) W fun e W' => (e = .returned (.bool true) ∧ J (pre ++ [x]) W' ∧ KRw S W W') ∨ (e = .returned (.bool false) ∧ Jx (pre ++ [x]) W'))
    (W : World) (hBn : W.cell? ⟨Bn, 0, none⟩ = some v) (hrow : W.ownsRow B 9 1 v L.length (nmL L)) (h0 : J [] W) :
    CallsIn Fence.wide n Tryz.prog 129 #[.func (.yield l) #[] #[], .pointer (some ⟨Bn, 0, none⟩)] W fun e W' => (∃ v, e = .returned v) ∧
      ((∃ ys : List (List UInt8), ys = L ∧ J ys W') ∨ (∃ pre : List (List UInt8), pre <+: L ∧ Jx pre W')) := by
  have HY := hide hY
  have HR := hide hrow
  obtain ⟨a, c, ev, ha⟩ := owns_forms hrow
  subst ev
  clear hY hrow
  refine callsIn_of_wp Tryz.func129 rfl trivial ?_ rfl
  simp only [Tryz.ntmps129, List.size_toArray, List.length_cons, List.length_nil, Nat.reduceAdd, Nat.reduceSub, Array.replicate_succ, Array.replicate_zero, List.push_toArray, List.append_toArray, List.nil_append, List.cons_append]
  gi_wp2
  gi_loopw [7] (fun iv wr => ∃ (k : Nat), k ≤ L.length ∧ iv = .int .i64 (k : Int) ∧ J (L.take k) wr ∧ Hid (KRw S W wr)) (fun iv _ => L.length - (intOf iv).toNat)
  case atStart => exact ⟨0, by omega, rfl, by simpa using h0, by show KRw S W W; exact fun g _ => rfl⟩
  case round =>
    obtain ⟨k, hk, rfl, hJ, hK⟩ := hrel
    by_cases hlt : k < L.length
    · obtain ⟨g, rfl⟩ := ha (by omega)
      have hgk : wr.cell? ⟨g, k, none⟩ = some (nmV L[k]) := by
        have h1 := HR.out.cellAt k (by omega)
        have h2 := hK.out g (hS g rfl)
        rw [World.cell?_of_block (w := W) (a := ⟨g, k, none⟩) h2, h1]
        simp [nmL, hlt]
      obtain ⟨xv, hxv⟩ : ∃ xv, nmV L[k] = xv := ⟨_, rfl⟩
      obtain ⟨fn, tmps, assign, body, hy, hR⟩ := HY.out (L.take k) L[k] wr hJ (by rw [List.length_take]; omega)
      simp only [nmE] at hy
      rw [hxv] at hgk hy
      have HHR := hide hR
      clear hR
      gi_wp2
      refine HHR.out.mono ?_
      rintro e W3 (⟨rfl, hJ3, hk3⟩ | ⟨rfl, hJx3⟩)
      · gi_wp2
        go_roundw
        case rel => exact ⟨k + 1, by omega, by go_num, by rw [take_snocL L k hlt]; exact hJ3, krw_t hK.out hk3⟩
        case measure => simp [intOf]; omega
      · gi_wp2
        refine bodyPost_ret (results_none rfl _ _ _) rfl ?_
        refine ⟨⟨_, rfl⟩, .inr ⟨L.take (k + 1), List.take_prefix _ _, ?_⟩⟩
        rw [take_snocL L k hlt]
        exact hJx3
    · have e : k = L.length := by omega
      subst e
      gi_wp2
      go_end0
      refine ⟨⟨_, rfl⟩, .inl ⟨L, rfl, ?_⟩⟩
      rw [List.take_length] at hJ
      exact hJ
attribute [local go_sem] Oper.semAt_some

theorem values_stops (n : Nat) (hn : 1 ≤ n) (Bn B : Nat) (L : List (List UInt8)) (v : Value) (hlen : L.length ≤ 1000000000) (S : List Nat) (hS : ∀ g, v.ownBlock = some g → g ∈ S) (w : World) (hB : Bn < w.heap.size) (hc : w.cell? ⟨Bn, 0, none⟩ = some v) (hrow : w.ownsRow B 9 1 v L.length (nmL L)) :
    SeqStopsK Fence.wide n Tryz.prog 129 #[.pointer (some ⟨Bn, 0, none⟩)] nmE (KRw S) (fun ys => ys = L) (fun pre => pre <+: L) L.length w := fun l J Jx W hW _ _ hY h0 =>
  values1_in n hn l Bn B L v hlen J Jx S hS hY W ((hW.cell (p := ⟨Bn, 0, none⟩) hB).trans hc) ((Kp.of_below [] hW).owns hrow (by simp)) h0
theorem endM_r {fn : Func} {R : Ending → World → Prop} {a : Act} {w : World} (h : LeavesInM Fence.wide 5 Tryz.prog fn a.tmps R a.defers .returning w) : endM fn R .ret a w := h
theorem grown_kp {W W' : World} {row : Option Nat} (h : W.grownBy W' row) : Kp row.toList W W' := (Kp.refl _ _).grown h (fun j hj => .inl (by rw [Option.mem_toList]; exact hj))
theorem owns_cellsD {w : World} {base size n g : Nat} {e : TypeId} {v : Value} {xs : List Value} (h : w.ownsRow base e size v n xs) (hg : v.ownBlock = some g) : ∃ cs t fr, w.heap[g]? = some (.cells cs t fr) := by
  rcases h.2 with ⟨rfl, _⟩ | ⟨g', cap, cur, rfl, _, hgg, _⟩
  · simp [Value.ownBlock] at hg
  · have : g' = g := by simpa [Value.ownBlock] using hg
    subst this
    exact ⟨_, _, _, hgg⟩
set_option maxRecDepth 100000 in
set_option maxHeartbeats 1000000 in
theorem appendVals_any (Bn B : Nat) (L : List (List UInt8)) (v : Value) (hlen : L.length ≤ 1000000000) (w : World) (hB : Bn < w.heap.size) (hBB : B ≤ w.heap.size) (hc : w.cell? ⟨Bn, 0, none⟩ = some v) (hrow : w.ownsRow B 9 1 v L.length (nmL L)) :
    Calls Tryz.prog 133 #[.slice none 0 0, .func (.func 129) #[] #[.pointer (some ⟨Bn, 0, none⟩)]] w fun e w' => ∃ v', e = .returned v' ∧ w'.ownsRow w.heap.size 9 1 v' L.length (nmL L) ∧ Kp [] w w' := by
  refine (callsIn_wide (n := 5)).1 ?_
  refine callsIn_of_wp_marks Tryz.func133 rfl trivial ?_ rfl
  simp only [Tryz.ntmps133, List.size_toArray, List.length_cons, List.length_nil, Nat.reduceAdd, Nat.reduceSub, Array.replicate_succ, Array.replicate_zero, List.push_toArray, List.append_toArray, List.nil_append, List.cons_append]
  refine wpIn_wide.2 ?_
  refine Go.wp_mono (Q := endM _ _) ?_ endM_post
  go_wp2_with fail
  obtain ⟨W1, hW1⟩ : ∃ W1, w.alloc (.cells #[.slice none 0 0] 37) = W1 := ⟨_, rfl⟩
  rw [hW1]
  have k1 : Kp [] w W1 := by rw [← hW1]; exact (Kp.refl _ _).alloc _
  have hs1 : W1.heap.size = w.heap.size + 1 := by rw [← hW1]; simp
  have hb1 : W1.heap[w.heap.size]? = some (.cells #[.slice none 0 0] 37 (0, 0)) := by rw [← hW1]; exact heap_alloc_new w _
  have hr1 := k1.owns hrow (by simp)
  have hc1 := k1.cellv hc (by simp)
  have hvb : ∀ g ∈ v.ownBlock.toList, g < w.heap.size := fun g hg => by
    have := (hrow.lt g (Option.mem_toList.1 hg)).2
    exact this
  refine (wpIn_wide (n := 5)).1 ?_
  refine wpIn_rangeFunc_ownG rfl (by omega) (gf := 129) (lb := #[.pointer (some ⟨Bn, 0, none⟩)]) rfl trivial (enters_of Tryz.func129 (by kernel_rfl) rfl)
    (values_stops 4 (by omega) Bn B L v hlen v.ownBlock.toList (fun g hg => by simp [hg]) W1 (by omega) hc1 hr1) krw_t (krw_b (n := W1.heap.size) (fun g hg => by have := hvb g hg; omega)) (Below.refl _ _) (fun _ => rfl)
    (fun pre W => (∃ u, W.heap[w.heap.size]? = some (.cells #[u] 37 (0, 0)) ∧ W.ownsRow (w.heap.size + 1) 9 1 u pre.length (nmL pre)) ∧ Kp [w.heap.size] W1 W)
    (fun _ _ _ => False)
    ?own
    (fun _ _ _ _ _ hs _ _ => hs)
    ⟨⟨_, hb1, World.ownsRow_nil _ _ _ _⟩, Kp.refl _ _⟩
    (fun x => { tmps := #[.slice none 0 0, .func (.func 129) #[] #[.pointer (some ⟨Bn, 0, none⟩)], .pointer (some ⟨w.heap.size, 0, none⟩), undef, .slice none 0 0, nmV x, .func (.func 129) #[] #[.pointer (some ⟨Bn, 0, none⟩)], nmV x, undef, undef, undef, undef, undef], defers := [] }) ?assign ?body ?done ?stop
  case own =>
    refine OwnFrom.and (fun pre A C row hs hg hr => ?_) (kp_own (Nat.le_refl _))
    obtain ⟨u, hu, hur⟩ := hs
    have kr := grown_kp hg
    have hcells : ∀ g cs t fr, A.heap[g]? = some (.cells cs t fr) → g ∉ row.toList := fun g cs t fr h1 hx => by
      obtain ⟨_, o, ho, hc⟩ := hr g (Option.mem_toList.1 hx)
      rw [h1] at ho
      simp only [Option.some.injEq] at ho
      subst ho
      simp [Obj.isCells] at hc
    refine ⟨u, kr.heap hu (hcells _ _ _ _ hu), kr.owns hur (fun g hg => ?_)⟩
    obtain ⟨cs, t, fr, e⟩ := owns_cellsD hur hg
    exact hcells _ _ _ _ e
  case assign =>
    intro l x W K hK
    simp only [nmE]
    gi_wp2
    exact hK
  case stop =>
    rintro D cc pre W _ _ h _
    exact h.elim
  case body =>
    rintro l pre x W ⟨⟨u, hu, hur⟩, hkp⟩ hlt
    have hsz := hkp.size
    obtain ⟨c0, _⟩ : W.cell? ⟨w.heap.size, 0, none⟩ = some u ∧ True := ⟨by simp [World.cell?, hu], trivial⟩
    have f0 : W.frozen? ⟨w.heap.size, 0, none⟩ = false := by simp [World.frozen?, hu]
    obtain ⟨xb, hxv⟩ : ∃ xb : ByteArray, nmV x = .string xb := ⟨_, rfl⟩
    obtain ⟨W2, hW2⟩ : ∃ W2, W.alloc (.cells #[.string xb] 9) = W2 := ⟨_, rfl⟩
    have k2 : Kp [] W W2 := by rw [← hW2]; exact (Kp.refl _ _).alloc _
    have hn2 : W2.heap[W.heap.size]? = some (.cells #[.string xb] 9 (0, 0)) := by rw [← hW2]; exact heap_alloc_new W _
    have hs2 : W2.heap.size = W.heap.size + 1 := by rw [← hW2]; simp
    obtain ⟨i0, hi0, hz0, hz1, hz2⟩ := info_parts Tryz.info9
    obtain ⟨ua, uc, eu, _⟩ := owns_forms hur
    subst eu
    have hur2 := k2.owns hur (by simp)
    have hnews := World.news_of_block (cs := #[.string xb]) (t := 9) (fr := (0, 0)) hn2
    simp only [hxv]
    gi_wp2_with (first
      | simp only [hW2]
      | (gi_at_builtin; (refine wpListIn_append_own_at _ rfl _ _ 37 rfl (w.heap.size + 1) 9 i0 (.string ⟨#[]⟩) 1 16 Tryz.underlying37 hi0 hz0 hz1 hz2 rfl (by decide) _ _ _ rfl hur2 ⟨W.heap.size, 0, none⟩ 1 1 [.string xb] rfl rfl hnews (by simp [Value.oneCell']) (by unfold maxLen; omega) (by omega) (by omega) ?_; intro u' W3 hown3 hgrow _ hblk; obtain ⟨ua', uc', eu', _⟩ := owns_forms hown3; subst eu'; have k3 := grown_kp hgrow; have hb3 := k3.heap (k2.heap hu (by simp)) (fun hx => by have := (hur.lt _ (Option.mem_toList.1 hx)).1; omega); have c3 : W3.cell? ⟨w.heap.size, 0, none⟩ = some (.slice ua pre.length uc) := (by simp [World.cell?, hb3]); have f3 : W3.frozen? ⟨w.heap.size, 0, none⟩ = false := (by simp [World.frozen?, hb3]))))
    have kb := kp_set W3 w.heap.size 0 (.slice ua' (pre.length + 1) uc')
    have hlow : ∀ g ∈ (Value.slice ua pre.length uc).ownBlock.toList, w.heap.size + 1 ≤ g := fun g hg => (hur.lt _ (Option.mem_toList.1 hg)).1
    have k03 : Kp (w.heap.size :: (Value.slice ua pre.length uc).ownBlock.toList) W (W3.setCell ⟨w.heap.size, 0, none⟩ (.slice ua' (pre.length + 1) uc')) := ((k2.mono (by simp)).next (k3.mono (fun x hx => List.mem_cons_of_mem _ hx))).next (kb.mono (by simp))
    refine ⟨⟨k03.size, fun i o hB hi ho => k03.heap hi ?_⟩, fun g hg => ?_, ⟨_, heap_setCell_same W3 w.heap.size 0 _ 37 _ hb3, ?_⟩, ?_⟩
    · intro hx
      rcases List.mem_cons.1 hx with e | hx
      · omega
      · have := owns_cellsD hur (Option.mem_toList.1 hx)
        obtain ⟨cs, t, fr, e⟩ := this
        rw [hi] at e
        simp only [Option.some.injEq] at e
        subst e
        simp [Obj.isCells] at ho
    · have h1 := hvb g hg
      exact k03.block g (by omega) (fun hx => by
        rcases List.mem_cons.1 hx with e | hx
        · omega
        · have := hlow g hx; omega)
    · have hl : (pre ++ [x]).length = pre.length + 1 := by simp
      have hm : nmL (pre ++ [x]) = nmL pre ++ [.string xb] := by simp [nmL, hxv]
      rw [hl, hm]
      exact kb.owns hown3 (fun g hg hx => by
        have := (hown3.lt g hg).1
        simp at hx
        omega)
    · refine hkp.trans (k03.mono (S' := w.heap.size :: (Value.slice ua pre.length uc).ownBlock.toList) (fun x hx => hx)) (fun x hx => ?_)
      rcases List.mem_cons.1 hx with e | hx
      · exact .inl (by simp [e])
      · exact .inr (by have := hlow x hx; omega)
  case done =>
    rintro D xs W hD hxs ⟨⟨u, hu, hur⟩, hkp⟩ hK
    subst hxs
    have hsz := hkp.size
    have c0 : W.cell? ⟨w.heap.size, 0, none⟩ = some u := by simp [World.cell?, hu]
    obtain ⟨ua, uc, eu, _⟩ := owns_forms hur
    subst eu
    have kD : Kp [D] W (W.putObj D (.deferred none)) := by
      refine ⟨rfl, rfl, rfl, by simp [World.putObj], fun i hi hn => ?_⟩
      unfold World.putObj
      simp only
      rw [Array.getElem?_setIfInBounds_ne (by simp at hn; exact fun e => hn e.symm)]
    have hend : (W.putObj D (.deferred none)).ownsRow w.heap.size 9 1 (.slice ua xs.length uc) xs.length (nmL xs) := by
      refine ownsRow_base_a (kD.owns hur (fun g hg hx => ?_)) (by omega)
      simp at hx
      subst hx
      obtain ⟨cs, t, fr, e⟩ := owns_cellsD hur hg
      rw [hK] at e
      simp at e
    have kend : Kp [] w (W.putObj D (.deferred none)) := by
      refine k1.trans (hkp.trans (kD.mono (S' := [D]) (fun x hx => hx)) (fun x hx => .inr ?_)) (fun x hx => .inr ?_)
      · simp at hx; omega
      · simp at hx; omega
    gi_wp2
    go_wp2_with fail
    refine endM_r ?_
    refine ⟨by simp, .inl ⟨_, _, rfl, run_takeDeferred hK, ?_⟩⟩
    refine ⟨_, results_tmp rfl _ _ _, ?_⟩
    exact ⟨_, rfl, hend, kend⟩
theorem collectVals_any (Bn B : Nat) (L : List (List UInt8)) (v : Value) (hlen : L.length ≤ 1000000000) (w : World) (hB : Bn < w.heap.size) (hBB : B ≤ w.heap.size) (hc : w.cell? ⟨Bn, 0, none⟩ = some v) (hrow : w.ownsRow B 9 1 v L.length (nmL L)) :
    Calls Tryz.prog 90 #[.func (.func 129) #[] #[.pointer (some ⟨Bn, 0, none⟩)]] w fun e w' => ∃ v', e = .returned v' ∧ w'.ownsRow w.heap.size 9 1 v' L.length (nmL L) ∧ Kp [] w w' := by
  have h := appendVals_any Bn B L v hlen w hB hBB hc hrow
  clear hc hrow
  go_enter Tryz.func90, Tryz.ntmps90
  go_wp2_with fail
  refine h.mono ?_
  rintro e w1 ⟨v', rfl, hv, k⟩
  clear h
  obtain ⟨a', c', rfl, _⟩ := owns_forms hv
  go_wp2_with fail
  go_ret
  exact ⟨_, rfl, hv, k⟩
/-- slices.Sorted(slices.Values(names)). -/
theorem sortedVals_any (Bn B : Nat) (L : List (List UInt8)) (v : Value) (hlen : L.length ≤ 2000000) (w : World) (hB : Bn < w.heap.size) (hBB : B ≤ w.heap.size) (hc : w.cell? ⟨Bn, 0, none⟩ = some v) (hrow : w.ownsRow B 9 1 v L.length (nmL L)) :
    Calls Tryz.prog 57 #[.func (.func 129) #[] #[.pointer (some ⟨Bn, 0, none⟩)]] w fun e w' => ∃ v', e = .returned v' ∧ w'.ownsRow w.heap.size 9 1 v' L.length (nmL (sortN L)) ∧ Kp [] w w' := by
  have h := collectVals_any Bn B L v (by omega) w hB hBB hc hrow
  clear hc hrow
  go_enter Tryz.func57, Tryz.ntmps57
  go_wp2_with fail
  refine h.mono ?_
  rintro e w1 ⟨v', rfl, hv, k⟩
  clear h
  have hs := sort_own w.heap.size v' L w1 hv hlen
  have hlow : ∀ g ∈ v'.ownBlock.toList, w.heap.size ≤ g := fun g hg => (hv.lt g (Option.mem_toList.1 hg)).1
  obtain ⟨a', c', rfl, _⟩ := owns_forms hv
  have HV := hide hv
  clear hv
  go_wp2_with fail
  refine hs.mono ?_
  rintro e w2 ⟨rfl, hv2, k2⟩
  clear hs
  go_wp2_with fail
  go_ret
  exact ⟨_, rfl, hv2, k.trans k2 (fun x hx => .inr (hlow x hx))⟩
end Go.Proofs.YtnffagpdnklnkaaGreatDoor.Pak
