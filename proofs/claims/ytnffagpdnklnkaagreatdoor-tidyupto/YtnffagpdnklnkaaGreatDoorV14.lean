import Derived.Test.YtnffagpdnklnkaaGreatDoorV13
import Derived.Test.YtnffagpdnklnkaaGreatDoorV04
import Derived.Test.YtnffagpdnklnkaaGreatDoorV06
import Derived.Deep.MidRow
import Derived.Deep.RegionHeld3
set_option linter.unusedVariables false
set_option linter.unusedSimpArgs false
set_option maxRecDepth 8000
namespace Go.Proofs.YtnffagpdnklnkaaGreatDoor.Pak
open Go.RowKit Go.Proofs.YtnffagpdnklnkaaGreatDoor Go.Proofs.YtnffagpdnklnkaaGreatDoor.Spl SiftM Go.Maps
theorem u8lt (c : UInt8) : c.toNat < 256 := c.toNat_lt
set_option maxHeartbeats 400000 in
theorem slot_any (c : UInt8) (w : World) (h : St.Sm c) :
    Calls Tryz.prog 196 #[.int .u8 (c.toNat : Int)] w fun e w' => e = .returned (.int .i64 ((St.slot c : Nat) : Int)) ∧ w' = w := by
  have hu := u8lt c
  unfold St.Sm at h
  unfold St.slot
  generalize c.toNat = x at *
  by_cases h1 : x ≤ 57
  · have h2 : (x : Int) ≤ 57 := by omega
    rw [if_pos h1]
    go_enter Tryz.func196, Tryz.ntmps196
    go_wp2_with fail
    go_ret
    refine ⟨?_, rfl⟩
    show Ending.returned (Value.int .i64 ((x : Int) - 48)) = _
    rw [show ((x - 48 : Nat) : Int) = (x : Int) - 48 by omega]
  · have h2 : ¬ (x : Int) ≤ 57 := by omega
    rw [if_neg h1]
    go_enter Tryz.func196, Tryz.ntmps196
    go_wp2_with fail
    go_ret
    refine ⟨?_, rfl⟩
    show Ending.returned (Value.int .i64 (10 + ((x : Int) - 97))) = _
    rw [show ((x - 87 : Nat) : Int) = 10 + ((x : Int) - 97) by omega]
set_option maxHeartbeats 400000 in
theorem sign_any (j : Nat) (w : World) (h : j < 36) :
    Calls Tryz.prog 232 #[.int .i64 (j : Int)] w fun e w' => e = .returned (.int .u8 ((St.sign j).toNat : Int)) ∧ w' = w := by
  by_cases h1 : j < 10
  · have h2 : (j : Int) < 10 := by omega
    go_enter Tryz.func232, Tryz.ntmps232
    go_wp2_with fail
    go_ret
    refine ⟨?_, rfl⟩
    show Ending.returned (Value.int .u8 (48 + (j : Int))) = _
    have e : (St.sign j).toNat = 48 + j := by unfold St.sign; rw [if_pos h1]; simp [UInt8.toNat_ofNat']; omega
    rw [e, show ((48 + j : Nat) : Int) = 48 + (j : Int) by omega]
  · have h2 : ¬ (j : Int) < 10 := by omega
    go_enter Tryz.func232, Tryz.ntmps232
    go_wp2_with fail
    go_ret
    refine ⟨?_, rfl⟩
    show Ending.returned (Value.int .u8 (97 + ((j : Int) - 10))) = _
    have e : (St.sign j).toNat = 87 + j := by unfold St.sign; rw [if_neg h1]; simp [UInt8.toNat_ofNat']; omega
    rw [e, show ((87 + j : Nat) : Int) = 97 + ((j : Int) - 10) by omega]

/-- Words that lie somewhere. -/
def Tv (w : World) (B : Nat) (a : Option Addr) (L : List (List UInt8)) : Prop :=
  L = [] ∨ ∃ g off, a = some ⟨g, off, none⟩ ∧ g < B ∧ ∀ i (h : i < L.length), w.cell? ⟨g, off + i, none⟩ = some (.string ⟨L[i].toArray⟩)
theorem Tv.below {w w' : World} {B : Nat} {a : Option Addr} {L : List (List UInt8)} (h : Tv w B a L) (hb : Below B w w') : Tv w' B a L := by
  rcases h with h | ⟨g, off, e, hg, hc⟩
  · exact .inl h
  · exact .inr ⟨g, off, e, hg, fun i hi => by rw [hb.cell (p := ⟨g, off + i, none⟩) hg]; exact hc i hi⟩

/-- How many have the same sign at a place as the first one. -/
def sameB (L : List (List UInt8)) (p : Nat) : Nat := (L.takeWhile fun t => t.getD p 0 == (L.headD []).getD p 0).length

theorem byte_at (t : List UInt8) (p : Nat) (h : p < t.length) : (ByteArray.mk t.toArray)[p]'(by show p < t.toArray.size; simpa using h) = t.getD p 0 := by
  rw [List.getD_eq_getElem?_getD, List.getElem?_eq_getElem h]
  rfl
theorem tw_stop {α : Type} (q : α → Bool) : ∀ (l : List α) (k : Nat), k ≤ l.length → (∀ i (h : i < l.length), i < k → q l[i] = true) → (∀ h : k < l.length, q l[k] = false) → (l.takeWhile q).length = k
  | [], k, hk, _, _ => by simp at hk; simp [hk]
  | a :: l, 0, _, _, h => by
    have := h (by simp)
    simp at this
    rw [List.takeWhile_cons_of_neg (by simp [this])]; rfl
  | a :: l, k + 1, hk, h1, h2 => by
    have := h1 0 (by simp) (by omega)
    simp at this
    rw [List.takeWhile_cons_of_pos this, List.length_cons, tw_stop q l k (by simpa using hk) (fun i h hi => by
      have := h1 (i + 1) (by simpa using h) (by omega)
      simpa using this) (fun h => by
      have := h2 (by simpa using h)
      simpa using this)]
theorem sameB_stop (L : List (List UInt8)) (p k : Nat) (t0 : List UInt8) (h0 : 0 < L.length) (ht : L[0] = t0) (hk : k ≤ L.length) (h1 : ∀ i (h : i < L.length), i < k → L[i].getD p 0 = t0.getD p 0) (h2 : ∀ h : k < L.length, L[k].getD p 0 ≠ t0.getD p 0) : sameB L p = k := by
  have hh : L.headD [] = t0 := by
    cases L with
    | nil => simp at h0
    | cons a r => simpa using ht
  unfold sameB
  rw [hh]
  exact tw_stop _ L k hk (fun i h hi => by rw [beq_iff_eq]; exact h1 i h hi) (fun h => by rw [beq_eq_false_iff_ne]; exact h2 h)

set_option maxHeartbeats 1000000 in
theorem same_any (B n cap p : Nat) (a : Option Addr) (L : List (List UInt8)) (w : World) (hv : Tv w B a L) (hn : L.length = n) (h1 : 1 ≤ n) (hb : n ≤ 100000) (hL : ∀ t ∈ L, p < t.length ∧ t.length ≤ 1000) :
    Calls Tryz.prog 195 #[.slice a n cap, .int .i64 (p : Int)] w fun e w' => e = .returned (.int .i64 ((sameB L p : Nat) : Int)) ∧ Kp [] w w' := by
  obtain ⟨g, off, rfl, hg, hc⟩ : ∃ g off, a = some ⟨g, off, none⟩ ∧ g < B ∧ ∀ i (h : i < L.length), w.cell? ⟨g, off + i, none⟩ = some (.string ⟨L[i].toArray⟩) := by
    rcases hv with h | h
    · rw [h] at hn; simp at hn; omega
    · exact h
  have HC := hide hc
  have HN := hide hn
  have HL := hide hL
  clear hc hn hL
  go_enter Tryz.func195, Tryz.ntmps195
  go_wp2_with fail
  have hL0 : 0 < L.length := by rw [HN.out]; omega
  have hc0 := HC.out 0 hL0
  have hl0 := HL.out L[0] (List.getElem_mem hL0)
  obtain ⟨t0, ht0⟩ : ∃ t0, L[0] = t0 := ⟨_, rfl⟩
  rw [ht0] at hc0 hl0
  rw [Nat.add_zero] at hc0
  have HT0 := hide ht0
  clear ht0
  go_loopw [5] (fun kv wr => ∃ k : Nat, 1 ≤ k ∧ k ≤ n ∧ kv = .int .i64 k ∧ (∀ i (h : i < L.length), i < k → L[i].getD p 0 = t0.getD p 0) ∧ Kp [] w wr) (fun kv _ => n - (intOf kv).toNat)
  case atStart => exact ⟨1, by omega, by omega, rfl, fun i h hi => by have : i = 0 := by omega
                                                                      subst this; rw [HT0.out], Kp.refl _ _⟩
  case round =>
    obtain ⟨k, hk1, hk, rfl, hall, hkp⟩ := hrel
    have HA := hide hall
    have hcr := hkp.cellv hc0 (by simp)
    have hz := hkp.size
    clear hall
    by_cases hlt : k < n
    · have hkL : k < L.length := by rw [HN.out]; exact hlt
      have hck := hkp.cellv (HC.out k hkL) (by simp)
      have hlk := HL.out L[k] (List.getElem_mem hkL)
      obtain ⟨t, ht⟩ : ∃ t, L[k] = t := ⟨_, rfl⟩
      rw [ht] at hck hlk
      have h2 : (k : Int) < (n : Int) := by omega
      have h3 : (0 : Int) ≤ (k : Int) := by omega
      have h4 : (p : Int) < (t.length : Int) := by omega
      have h5 : (p : Int) < (t0.length : Int) := by omega
      have h6 : (0 : Int) ≤ (p : Int) := by omega
      have HT := hide ht
      clear ht
      go_wp2_with fail
      go_quiet (fail)
      go_wp2_with fail
      · rename_i hq
        have hx : t.getD p 0 = t0.getD p 0 := by
          rw [← byte_at t p (by omega), ← byte_at t0 p (by omega)]
          have hq2 := beq_iff_eq.1 hq
          exact UInt8.toNat_inj.1 (by omega)
        refine ⟨⟨k + 1, by omega, by omega, by go_num, ?_, hkp.drewN _⟩, by simp [intOf]; omega⟩
        intro i h hi
        by_cases e : i = k
        · subst e; rw [HT.out]; exact hx
        · exact HA.out i h (by omega)
      · rename_i hq
        have hx : t.getD p 0 ≠ t0.getD p 0 := by
          rw [← byte_at t p (by omega), ← byte_at t0 p (by omega)]
          intro e
          rw [e] at hq
          simp at hq
        go_ret
        refine ⟨?_, hkp.drewN _⟩
        rw [sameB_stop L p k t0 hL0 HT0.out (by omega) HA.out (fun h => by rw [HT.out]; exact hx)]
        rfl
    · have ek : k = n := by omega
      subst ek
      go_wp2_with fail
      go_quiet (fail)
      go_wp2_with fail
      go_ret
      refine ⟨?_, hkp.drewN _⟩
      rw [sameB_stop L p k t0 hL0 HT0.out (by rw [HN.out]; omega) HA.out (fun h => by rw [HN.out] at h; omega)]
      rfl
/-- Any value, as it is. -/
def anyR (v : Value) : Option (DataW Value × List MemPlace) := some (.held v, [])

theorem row485 : (305 : TypeId) < Tryz.prog.types.size := of_decide_eq_true (by kernel_rfl)
theorem deep485 : Tryz.prog.keyTypeAt 2 305 = true := by kernel_rfl
theorem wide485 : (match Tryz.prog.underlying 305 with | some (.array _ _) | some (.struct _) => true | _ => false) = true := by kernel_rfl
set_option maxRecDepth 100000 in
theorem outK : Keyed Tryz.prog 305 := Keyed.of_law (deep_law_laid laidOut (m := 2) (by omega) row485 deep485 wide485)
theorem keyT485 : Tryz.prog.keyType 305 = true := by kernel_rfl
theorem cells485 : Tryz.prog.cellsOf 305 = 2 := by kernel_rfl
theorem cells5 : Tryz.prog.cellsOf 5 = 1 := by kernel_rfl
theorem keyOf_out (s c : Nat) (hs : s ≤ 1099511627776) (hc : c < 256) : ∃ k, keyOf Tryz.prog 305 (.agg #[.int .i64 (s : Int), .int .u8 (c : Int)]) = some k := by
  obtain ⟨m, hm⟩ := types_size
  have hw : (Lit.int .u8 (c : Int)).wf = true := WalkArith.wf_u8 ⟨by omega, by omega⟩
  have h1 : Tryz.prog.keyLits (m + 2) 305 [.int .i64 (s : Int), .int .u8 (c : Int)] = some [.int .i64 (s : Int), .int .u8 (c : Int)] := by
    unfold Program.keyLits
    simp only [Tryz.underlying305]
    rw [if_pos ⟨by rw [cells485]; rfl, by simp⟩]
    simp [cells294, cells5, Program.keyLits, Tryz.underlying108, Tryz.underlying5, wf64 s hs, hw]
  unfold keyOf
  simp only [Tryz.underlying305]
  rw [if_pos (by simp [keyT485, Value.formed, Tryz.underlying305, cells485]), hm]
  simp only [Value.cells]
  rw [h1]
  exact ⟨_, rfl⟩

/-- Block M is a map of what leads where, of so many entries at the most. -/
def LeadIs (w : World) (M n : Nat) : Prop := ∃ D : DataW Value, w.ownsMap Tryz.prog 305 anyR M n D
theorem LeadIs.lt {w : World} {M n : Nat} (h : LeadIs w M n) : M < w.heap.size := by
  obtain ⟨D, h1⟩ := h; exact h1.lt
theorem LeadIs.block {w : World} {M n : Nat} (h : LeadIs w M n) : ∃ es clock, w.heap[M]? = some (.map es clock) := by
  obtain ⟨D, ⟨es, clock, h1, _⟩⟩ := h; exact ⟨es, clock, h1⟩
theorem LeadIs.kp {S : List Nat} {w w' : World} {M n : Nat} (h : LeadIs w M n) (k : Kp S w w') (hM : M ∉ S) : LeadIs w' M n := by
  obtain ⟨D, ⟨es, clock, h1, h2⟩⟩ := h
  exact ⟨D, ⟨es, clock, k.heap h1 hM, h2⟩⟩
theorem leadIs_made (w : World) : LeadIs (w.alloc (.map #[] 0)) w.heap.size 0 := ⟨.map [], World.ownsMap_made _ _ _ _⟩
theorem LeadIs.store {w : World} {M n : Nat} (h : LeadIs w M n) (hn : n ≤ 1000000000) (s c : Nat) (v : Value) (hs : s ≤ 1099511627776) (hc : c < 256) :
    ∃ w', (Instr.mapUpdate 106 (.map (some M)) (.agg #[.int .i64 (s : Int), .int .u8 (c : Int)]) v).run Tryz.prog w = .ok () w' ∧ LeadIs w' M (n + 1) ∧ Kp [M] w w' := by
  obtain ⟨D, h⟩ := h
  obtain ⟨k, hk⟩ := keyOf_out s c hs hc
  obtain ⟨w', hrun, h1, h2⟩ := h.update outK Tryz.underlying106 (by unfold maxLen; omega) hk (show anyR v = some (.held v, []) from rfl)
  exact ⟨w', hrun, ⟨_, h1⟩, (Kp.refl [M] w).grown h2 (fun k hk => by simp at hk; left; simp [hk])⟩

theorem lead_more {w : World} {M n n' : Nat} (h : LeadIs w M n) (hn : n ≤ n') : LeadIs w M n' := by
  obtain ⟨D, es, clock, h1, h2, h3, h4⟩ := h
  exact ⟨D, es, clock, h1, h2, Nat.le_trans h3 hn, h4⟩

def abV (A : List (Bool × Int)) : List Value := A.flatMap fun x => [.bool x.1, .int .i64 x.2]
def toV (e : St.Ex) : List Value := e.to.map fun n : Nat => Value.int .i64 (n : Int)
theorem index_to (e : St.Ex) (he : OkE e) (j : Nat) (hj : j < 36) (w : World) : (Instr.index 265 (.agg (toV e).toArray) (.int .i64 (j : Int))).run Tryz.prog w = .ok (.int .i64 ((e.to.getD j 0 : Nat) : Int)) w := by
  have h1 : (0 : Int) ≤ (j : Int) ∧ (j : Int) < 36 := by omega
  have h2 : j < e.to.length := by rw [he.1]; exact hj
  simp [Instr.index, run_underlying Tryz.underlying265, asIntOf, h1, go_sem]
  rw [if_pos hj]
  simp [toV, h2]
theorem info427 : (Tryz.prog.info? 265).map (·.size) = some 36 := by kernel_rfl
theorem load_to (e : St.Ex) (X : Nat) (w : World) (h : w.heap[X]? = some (.cells (exC e).toArray 267 (0, 0))) : w.rangeAt X 1 (toV e) := by
  intro j v hv
  rw [cell_of_row w X (1 + j) _ _ _ h]
  rw [Nat.add_comm]
  simpa [exC, toV] using hv
theorem cell_ends (e : St.Ex) (X : Nat) (w : World) (h : w.heap[X]? = some (.cells (exC e).toArray 267 (0, 0))) : w.cell? ⟨X, 0, none⟩ = some (.bool e.ends) := by
  rw [cell_of_row w X 0 _ _ _ h]; rfl

theorem info487 : (Tryz.prog.info? 307).map (fun i => (i.zero, i.size, i.bytes)) = some (some (.agg #[.bool false, .int .i64 0]), 2, 16) := by kernel_rfl
theorem abV_len (A : List (Bool × Int)) : (abV A).length = A.length * 2 := by
  induction A with
  | nil => rfl
  | cons x r ih => simp [abV] at ih ⊢; omega
theorem abV_at (A : List (Bool × Int)) : ∀ i (h : i < A.length), (abV A)[i * 2 + 1]? = some (.int .i64 A[i].2) := by
  induction A with
  | nil => intro i h; simp at h
  | cons x r ih =>
    intro i h
    cases i with
    | zero => rfl
    | succ i =>
      have := ih i (by simpa using h)
      rw [show (i + 1) * 2 + 1 = (i * 2 + 1) + 2 by omega]
      simpa [abV] using this
theorem abV_snoc (A : List (Bool × Int)) (x : Bool × Int) : abV (A ++ [x]) = abV A ++ [.bool x.1, .int .i64 x.2] := by simp [abV]
theorem bd_cells {w : World} {b : Nat} {x y z u : Value} {t : TypeId} (h : w.heap[b]? = some (.cells #[x, y, z, u] t (0, 0))) :
    w.cell? ⟨b, 0, none⟩ = some x ∧ w.cell? ⟨b, 1, none⟩ = some y ∧ w.cell? ⟨b, 2, none⟩ = some z ∧ w.cell? ⟨b, 3, none⟩ = some u ∧ w.frozen? ⟨b, 2, none⟩ = false ∧ w.frozen? ⟨b, 3, none⟩ = false := by
  simp [World.cell?, World.frozen?, h]

theorem owns_ne_obj {w : World} {M base n size : Nat} {e : TypeId} {v : Value} {xs : List Value} {es : Array MapEntry} {cl : Nat} (h : w.ownsRow base e size v n xs) (hM : w.heap[M]? = some (.map es cl)) : v.ownBlock ≠ some M := by
  intro ee
  rcases h.2 with ⟨rfl, _⟩ | ⟨g, cap, cur, rfl, _, hb, _⟩
  · simp [Value.ownBlock] at ee
  · simp [Value.ownBlock] at ee
    subst ee
    rw [hM] at hb; simp at hb

set_option maxHeartbeats 2000000 in
theorem put_any (b M B n m s : Nat) (e : St.Ex) (M0 : Value) (st : Int) (aa : Option Addr) (ca : Nat) (A : List (Bool × Int)) (w : World) (he : OkE e) (hlt : ∀ x ∈ e.to, x < m) (hA : A.length = m) (hm : m ≤ 1000000) (hs : s ≤ 1000000) (hn : n ≤ 100000000)
    (hb : w.heap[b]? = some (.cells #[M0, .map (some M), .slice aa m ca, .int .i64 st] 237 (0, 0))) (hl : LeadIs w M n) (ho : w.ownsRow B 307 2 (.slice aa m ca) m (abV A)) (hB : B ≤ w.heap.size) :
    Calls Tryz.prog 223 #[.pointer (some ⟨b, 1, none⟩), .int .i64 (s : Int), .agg (exC e).toArray] w fun r w' => r = .returned (.tuple #[]) ∧ ∃ (aa' : Option Addr) (ca' : Nat) (A' : List (Bool × Int)), A'.length = m + 1 ∧ w'.heap[b]? = some (.cells #[M0, .map (some M), .slice aa' (m + 1) ca', .int .i64 st] 237 (0, 0)) ∧ LeadIs w' M (n + 36) ∧ w'.ownsRow B 307 2 (.slice aa' (m + 1) ca') (m + 1) (abV A') ∧ Kp (b :: M :: (Value.slice aa m ca).ownBlock.toList) w w' := by
  obtain ⟨i0, hi, hz0, hz1, hz2⟩ := info_parts info487
  obtain ⟨W, hW⟩ : ∃ W, w.alloc (.cells (exC e).toArray 267) = W := ⟨_, rfl⟩
  have hX : W.heap[w.heap.size]? = some (.cells (exC e).toArray 267 (0, 0)) := by rw [← hW]; exact heap_alloc_new w _
  have k0 : Kp [] w W := by rw [← hW]; exact (Kp.refl _ _).alloc _
  have hx0 := cell_ends e _ W hX
  have hld := hide (load_to e _ W hX)
  have hsz : Hid ((Tryz.prog.info? 265).map (·.size) = some (toV e).length) := by show _ = _; rw [info427]; simp [toV, he.1]
  have hbW := k0.heap hb (by simp)
  have hlW := hl.kp k0 (by simp)
  have hoW := k0.owns ho (by simp)
  have hix := fun j (hj : j < 36) (w' : World) => index_to e he j hj w'
  have hz := k0.size
  have HX := hide hX
  have hMX : Hid (w.heap.size ≠ M) := by have := hl.lt; show _ ≠ _; omega
  have HE := hide he
  have HLT := hide hlt
  have HA := hide hA
  have HB := hide hbW
  have HLD := hide hlW
  have HO := hide hoW
  have HIX := hide hix
  have hbM : Hid (b ≠ M) := by
    intro e'
    obtain ⟨es, cl, h1⟩ := hl.block
    rw [← e', hb] at h1; simp at h1
  have hoM : Hid ((Value.slice aa m ca).ownBlock ≠ some M) := by
    intro e'
    obtain ⟨es, cl, h1⟩ := hlW.block
    exact owns_ne_obj hoW h1 e'
  have hob : Hid ((Value.slice aa m ca).ownBlock ≠ some b) := owns_ne hoW hbW (by decide)
  clear hX he hlt hA hbW hlW hoW hix hb hl ho
  obtain ⟨en, hen⟩ : ∃ en, e.ends = en := ⟨_, rfl⟩
  rw [hen] at hx0
  have HEN := hide hen
  clear hen
  go_enter Tryz.func223, Tryz.ntmps223
  go_wp2_with (first
      | (refine wpList_load_mid rfl 265 _ rfl w.heap.size 1 rfl (toV e) _ hld.out Tryz.underlying265 rfl hsz.out ?_)
      | fail)
  all_goals
    clear hx0 hld hW hsz
    go_loopw [6, 13] (fun tv jv wr => ∃ (j : Nat) (x : Int), j ≤ 36 ∧ jv = .int .i64 j ∧ tv = .int .i64 x ∧ LeadIs wr M (n + j) ∧ Kp [M] W wr) (fun _ jv _ => 36 - (intOf jv).toNat)
    case atStart => exact ⟨0, _, by omega, rfl, rfl, HLD.out, Kp.refl _ _⟩
    case round =>
      obtain ⟨j, x, hj, rfl, rfl, hlr, hkr⟩ := hrel
      have hbr := hkr.heap HB.out (by simpa using hbM.out)
      have hor := hkr.owns HO.out (fun g hg hx => by simp at hx; subst hx; exact hoM.out hg)
      obtain ⟨c0, c1, c2, c3, f2, f3⟩ := bd_cells hbr
      by_cases hlt : j < 36
      · have hjx := HIX.out j hlt wr
        obtain ⟨to, hto⟩ : ∃ to, e.to.getD j 0 = to := ⟨_, rfl⟩
        rw [hto] at hjx
        have hmem : to < m := by
          have h36 : j < e.to.length := by rw [HE.out.1]; exact hlt
          rw [← hto, List.getD_eq_getElem?_getD, List.getElem?_eq_getElem h36]
          exact HLT.out _ (List.getElem_mem h36)
        clear hto
        by_cases hto0 : to = 0
        · subst hto0
          go_wp2_with fail
          go_roundw
          case rel => exact ⟨j + 1, x, by omega, by go_num, rfl, lead_more hlr (by omega), hkr⟩
          case measure => simp [intOf]; omega
        · have hne : ((to : Int) == 0) = false := by rw [beq_eq_false_iff_ne]; omega
          have HLR := hide hlr
          clear hlr
          go_wp2_with fail
          go_region_held3 (fun w' => w'.cell? ⟨b, 1, none⟩ = some (.map (some M))) (first | (exact s1) | (exact r1) | go_keep)
            ((go_at_call 232; refine (sign_any j wr.drew hlt).mono ?_; rintro r w3 ⟨rfl, hw3⟩; have s1 : w3.cell? ⟨b, 1, none⟩ = some (.map (some M)) := (by rw [hw3]; exact c1); have hm3 : LeadIs w3 M (n + j) := (by rw [hw3]; exact HLR.out.kp (S := []) ((Kp.refl _ _).drewN 1) (by simp)); have k3 : Kp [M] wr w3 := (by rw [hw3]; exact (Kp.refl _ _).drewN 1); clear hw3; obtain ⟨w4, hst, hm4, hk4⟩ := hm3.store (by omega) s (St.sign j).toNat (.agg #[.int .i64 (to : Int), .int .i64 x]) (by omega) (u8lt _); have r1 : w4.cell? ⟨b, 1, none⟩ = some (.map (some M)) := hk4.cellv s1 (by simpa using hbM.out)))
          have kd4 : Kp [M] wr w4 := k3.next hk4
          have HM4 := hide hm4
          have hb4 := kd4.heap hbr (by simpa using hbM.out)
          have ho4 := kd4.owns hor (fun g hg hx => by simp at hx; subst hx; exact hoM.out hg)
          obtain ⟨d0, d1, d2, d3, g2, g3⟩ := bd_cells hb4
          clear hm4 hst hm3 s1 r1 c0 c1 c2 c3 f2 f3 hjx
          obtain ⟨ga, rfl⟩ : ∃ ga, aa = some ⟨ga, 0, none⟩ := by
            obtain ⟨a', c', ee, hh⟩ := owns_forms ho4
            cases ee
            exact hh (by omega)
          have hAt : to < A.length := by rw [HA.out]; exact hmem
          have hca : w4.cell? ⟨ga, to * 2 + 1, none⟩ = some (.int .i64 A[to].2) := by
            have := ho4.cells (g := ga) rfl (to * 2 + 1) _ (abV_at A to hAt)
            rw [Addr.add_mid] at this
            simpa using this
          have hgl := (ho4.lt ga rfl).2
          have i1 : (0 : Int) ≤ (to : Int) := by omega
          have i2 : (to : Int) < (m : Int) := by omega
          obtain ⟨y, hy⟩ : ∃ y, A[to].2 = y := ⟨_, rfl⟩
          rw [hy] at hca
          have hkq : Kp [M] W w4 := hkr.trans kd4 (fun z hz => .inl hz)
          clear hy ho4 hb4 hor hbr hkr kd4 k3 hk4
          go_wp2_with fail
          exact ⟨⟨j + 1, _, by omega, by go_num, rfl, HM4.out, hkq⟩, by simp [intOf]; omega⟩
      · have ej : j = 36 := by omega
        subst ej
        have hxr := cell_ends e _ wr (hkr.heap HX.out (by simpa using hMX.out))
        rw [HEN.out] at hxr
        have HLR := hide hlr
        have HOR := hide hor
        have HBR := hide hbr
        have hzr := hkr.size
        clear c0 c3 f3 hlr hor hbr
        have hvl : ∀ g, (Value.slice aa m ca).ownBlock = some g → g < wr.heap.size := fun g hg => (HOR.out.lt g hg).2
        have hAl : (abV A).length = m * 2 := by rw [abV_len, HA.out]
        have hb2 := heap_lt HBR.out
        have hB2 : B ≤ wr.heap.size := by omega
        go_wp2_with fail
        go_region_law
          (refine step_append_lies _ (by rfl) _ _ _ (by rfl) B 307 i0 _ 2 16 Tryz.underlying107 hi hz0 hz1 hz2 rfl (by omega) (.slice aa m ca) m (abV A) (by rfl) ((HOR.out.alloc _).drew)
              ⟨wr.heap.size, 0, none⟩ 1 1 [_, .int .i64 x] (by rfl) (by rfl) (World.news_of_block (cs := #[_, .int .i64 x]) (t := 307) (fr := (0, 0)) (heap_alloc_new wr _)) (by intro u hu; simp at hu; rcases hu with rfl | rfl <;> rfl)
              (by omega) (by unfold maxLen; omega) (by omega) (by simp; omega) (wr.heap.size + 1) (by simp) ?_; intro gg cap' w3 hown3 hgrow hat3 hlt3; have hb3 := far_block HBR.out hgrow hob.out; obtain ⟨d0, d1, d2, d3, g2, g3⟩ := bd_cells hb3)
        all_goals
          have k3 : Kp (b :: M :: (Value.slice aa m ca).ownBlock.toList) wr w3 := (((Kp.refl _ wr).alloc _).drewN 1).grown hgrow (fun j hj => .inl (by simp [hj]))
          have kp3 : Kp (b :: M :: (Value.slice aa m ca).ownBlock.toList) w (w3.setCell ⟨b, 2, none⟩ (.slice (some ⟨gg, 0, none⟩) (m + 1) cap')) := (((k0.mono (by simp)).next (hkr.mono (by simp))).next k3).setCell (.inl (by simp)) _
          have hb4 : (w3.setCell ⟨b, 2, none⟩ (.slice (some ⟨gg, 0, none⟩) (m + 1) cap')).heap[b]? = some (.cells #[M0, .map (some M), .slice (some ⟨gg, 0, none⟩) (m + 1) cap', .int .i64 st] 237 (0, 0)) := by
            rw [heap_setCell_same w3 b 2 _ 237 _ hb3]
            rfl
          have k5 : Kp [b] w3 (w3.setCell ⟨b, 2, none⟩ (.slice (some ⟨gg, 0, none⟩) (m + 1) cap')) := (Kp.refl _ _).setCell (.inl (by simp)) _
          have ho4 := k5.owns hown3 (fun g hg hx => by simp at hx; subst hx; exact owns_ne hown3 hb3 (by decide) hg)
          have hl4 : LeadIs (w3.setCell ⟨b, 2, none⟩ (.slice (some ⟨gg, 0, none⟩) (m + 1) cap')) M (n + 36) := by
            have h1 := HLR.out.kp (S := (Value.slice aa m ca).ownBlock.toList) ((((Kp.refl _ wr).alloc _).drewN 1).grown hgrow (fun j hj => .inl (by simp [hj]))) (fun hx => hoM.out (by simpa using hx))
            exact h1.kp k5 (by simpa using hbM.out.symm)
          have HO4 := hide ho4
          have HB4 := hide hb4
          have HL4 := hide hl4
          clear ho4 hb4 hl4 hb3 d0 d1 d2 d3 g2 g3 hown3 hgrow c1 c2 f2 hxr
          go_wp2_with fail
          go_end0
          exact ⟨rfl, _, _, A ++ [(_, x)], by simp [HA.out], HB4.out, HL4.out, by rw [abV_snoc]; exact HO4.out, kp3⟩
end Go.Proofs.YtnffagpdnklnkaaGreatDoor.Pak
