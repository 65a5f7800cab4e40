import Derived.Test.YtnffagpdnklnkaaGreatDoorV18
import Derived.Test.YtnffagpdnklnkaaGreatDoorV12
import Derived.Test.YtnffagpdnklnkaaGreatDoorV17
import Derived.Test.YtnffagpdnklnkaaGreatDoorV04
import Derived.Test.YtnffagpdnklnkaaGreatDoorV13
import Derived.Test.YtnffagpdnklnkaaGreatDoorV05
import Derived.Test.YtnffagpdnklnkaaGreatDoorV00
import Derived.Maps.RangeWalk
import Derived.Laws.AppendOwnNone
import Derived.Test.YtnffagpdnklnkaaGreatDoorProg
import Derived.WalkKit
import Derived.WalkSpells
import Derived.WalkLawsBesides
import Derived.BigQuiet
import Derived.Deep.QuietTactic
import Derived.Deep.LoopGhost
import Derived.Deep.RegionHeld3
import Derived.Deep.RegionLaw
import Derived.Deep.AppendLies
import Derived.Deep.RegionWith
set_option linter.unusedVariables false
set_option linter.unusedSimpArgs false
set_option maxRecDepth 8000
namespace Go.Proofs.YtnffagpdnklnkaaGreatDoor.Pak
open Go.RowKit Go.Proofs.YtnffagpdnklnkaaGreatDoor Go.Proofs.YtnffagpdnklnkaaGreatDoor.Spl SiftM Go.Maps
set_option linter.unusedVariables false
set_option linter.unusedSimpArgs false
set_option maxRecDepth 8000

theorem same_string {l : Lit} {b : List UInt8} (h : l.sameKey (.string b) = true) : l = .string b := by
  cases l <;> simp [Lit.sameKey] at h
  rw [h]
theorem string_same {l : Lit} {b : List UInt8} (h : (Lit.string b).sameKey l = true) : l = .string b := by
  cases l <;> simp [Lit.sameKey] at h
  rw [h]
/-- A map with as many entries as these keys has no others. -/
theorem map_only {D : DataW Unit} {c : Nat} {f : Nat → Nat → Option Nat} {w : World} {M : Nat} (hown : w.ownsMap Tryz.prog 234 (plainElem Tryz.prog 3) M c D) (hsz : Maps.size D = c) (hhas : ∀ d p, d ≤ 1099511627776 → p ≤ 1099511627776 → Maps.has D (key d p) = (f d p).isSome)
    (K : List (Nat × Nat)) (hK : K.Nodup) (hlen : K.length = c) (hb : ∀ x ∈ K, x.1 ≤ 1099511627776 ∧ x.2 ≤ 1099511627776 ∧ (f x.1 x.2).isSome = true) (kl : Lit) (hk : Maps.has D kl = true) : ∃ x ∈ K, kl = key x.1 x.2 := by
  obtain ⟨es, rfl, hap, _⟩ := hown.entries spotK
  have hin : ∀ x ∈ K, key x.1 x.2 ∈ es.map Prod.fst := by
    intro x hx
    obtain ⟨h1, h2, h3⟩ := hb x hx
    have := hhas x.1 x.2 h1 h2
    rw [h3, Maps.has_eq, List.any_eq_true] at this
    obtain ⟨e, he, hs⟩ := this
    exact List.mem_map.2 ⟨e, he, same_string hs⟩
  have hkn : (K.map fun x => key x.1 x.2).Nodup := St.map_nodup _ K hK fun x hx y hy e => by
    obtain ⟨a1, a2, _⟩ := hb x hx
    obtain ⟨b1, b2, _⟩ := hb y hy
    obtain ⟨e1, e2⟩ := key_inj a1 a2 b1 b2 e
    exact Prod.ext e1 e2
  rw [Maps.has_eq, List.any_eq_true] at hk
  obtain ⟨e, he, hs⟩ := hk
  have hmem : e.1 ∈ K.map fun x => key x.1 x.2 := by
    apply Classical.byContradiction
    intro hn
    have h1 : (e.1 :: K.map fun x => key x.1 x.2).Nodup := List.pairwise_cons.2 ⟨fun z hz e' => hn (e' ▸ hz), hkn⟩
    have h2 := St.sub_len _ (es.map Prod.fst) h1 (fun z hz => by
      rcases List.mem_cons.1 hz with rfl | hz
      · exact List.mem_map.2 ⟨e, he, rfl⟩
      · obtain ⟨x, hx, rfl⟩ := List.mem_map.1 hz
        exact hin x hx)
    rw [Maps.size_eq] at hsz
    simp only [List.length_cons, List.length_map] at h2
    omega
  obtain ⟨x, hx, e'⟩ := List.mem_map.1 hmem
  refine ⟨x, hx, ?_⟩
  rw [← e'] at hs
  exact string_same hs

/-- The places of the words of some docs. -/
def spots (rows : List (List Nat)) : Nat → List (Nat × Nat)
  | 0 => []
  | d + 1 => spots rows d ++ (List.range (rows.getD d []).length).map fun p => (d, p)
theorem spots_len (rows : List (List Nat)) : ∀ d, (spots rows d).length = cntTo rows d
  | 0 => rfl
  | d + 1 => by simp [spots, cntTo, spots_len rows d]
theorem spots_mem (rows : List (List Nat)) : ∀ (n : Nat) (x : Nat × Nat), x ∈ spots rows n → x.1 < n ∧ x.2 < (rows.getD x.1 []).length
  | 0, x, h => by simp [spots] at h
  | n + 1, x, h => by
    rcases List.mem_append.1 h with h | h
    · have := spots_mem rows n x h; exact ⟨by omega, this.2⟩
    · obtain ⟨p, hp, rfl⟩ := List.mem_map.1 h
      exact ⟨by simp, List.mem_range.1 hp⟩
theorem spots_nodup (rows : List (List Nat)) : ∀ n, (spots rows n).Nodup
  | 0 => List.Pairwise.nil
  | n + 1 => by
    show (spots rows n ++ _).Pairwise (· ≠ ·)
    rw [List.pairwise_append]
    refine ⟨spots_nodup rows n, ?_, fun a ha b hb => ?_⟩
    · exact St.map_nodup _ _ List.nodup_range fun x _ y _ e => by simpa using e
    · obtain ⟨p, hp, rfl⟩ := List.mem_map.1 hb
      have := (spots_mem rows n a ha).1
      intro e; rw [e] at this; simp at this

theorem info121 : (Tryz.prog.info? 79).map (fun i => (i.zero, i.size, i.bytes)) = some (some (.int .u64 0), 1, 8) := by kernel_rfl
/-- Sets, one behind the other. -/
def SetsOk (n : Nat) (cs : Array Value) : Prop := cs.size = n ∧ ∀ i, i < n → ∃ x : Nat, x < 18446744073709551616 ∧ cs[i]? = some (.int .u64 (x : Int))
theorem make_sets (c : Nat) (w : World) (hc : c ≤ 1000000) : ∃ cs, (Instr.makeSlice 111 (.int .i64 c) (.int .i64 c)).run Tryz.prog w = .ok (.slice (some ⟨w.heap.size, 0, none⟩) c c) (w.alloc (.cells cs 79)) ∧ SetsOk c cs := by
  obtain ⟨i0, hi, hz0, hz1, hz2⟩ := info_parts info121
  have := run_make (P := Tryz.prog) w 111 79 i0 (.int .u64 0) Tryz.underlying111 hi hz0 .i64 .i64 c c (by omega) (by omega) (by rw [hz2]; omega) (by omega)
  rw [hz1] at this
  simp only [Int.toNat_natCast, Nat.mul_one] at this
  refine ⟨_, this, ?_, fun i hi => ⟨0, by omega, ?_⟩⟩
  · simp [size_madeCells]
  · have e : (Value.int .u64 0).cells = #[.int .u64 0] := rfl
    rw [e]
    simp [madeCells, hi, Nat.mod_one]

theorem keyed_inj {P : Program} {k : TypeId} (K : Keyed P k) {a b : Value} {l : Lit} (ha : keyOf P k a = some l) (hb : keyOf P k b = some l) : a = b := K.inj ha hb

section
variable {ops : Array Oper} {rest : List Oper} {o : Oper} {a : Act} {Q : Exit → Act → World → Prop}
/-- A step of a loop over the places of a table. -/
theorem next_spots (w : World) (hg : o.guard = none) (it : Operand) (hop : o.op = Op.next it false) (M r c : Nat) (D : DataW Unit) (left : Lit → Bool) (cnt : Nat) (hit : a.eval it = .pointer (some ⟨r, 0, none⟩))
    (h : w.ranges Tryz.prog 234 (plainElem Tryz.prog 3) M r c D left cnt) (hl : ∀ kl, left kl = true → Maps.has D kl = true) (f : Nat → Nat → Option Nat)
    (hsz : Maps.size D = c) (hhas : ∀ d p, d ≤ 1099511627776 → p ≤ 1099511627776 → Maps.has D (key d p) = (f d p).isSome)
    (hat : ∀ d p, d ≤ 1099511627776 → p ≤ 1099511627776 → ∀ v, f d p = some v → D.atKey (key d p) (.lit (.int .i64 0)) = .lit (.int .i64 (v : Int)))
    (K : List (Nat × Nat)) (hK : K.Nodup) (hlen : K.length = c) (hb : ∀ x ∈ K, x.1 ≤ 1099511627776 ∧ x.2 ≤ 1099511627776 ∧ (f x.1 x.2).isSome = true)
    (hDone : wpList Tryz.prog ops Q rest (a.put o.dst (.tuple #[.bool false])) w)
    (hMore : ∀ (d p v : Nat) (w' : World) (left' : Lit → Bool) (cnt' : Nat), (d, p) ∈ K → f d p = some v → w'.ranges Tryz.prog 234 (plainElem Tryz.prog 3) M r c D left' cnt' → (∀ kl, left' kl = true → Maps.has D kl = true) → cnt' < cnt →
      w.grownBy w' (some r) → w'.heap.size = w.heap.size → (Instr.entry (.pointer (some ⟨r, 0, none⟩))).run Tryz.prog w' = .ok (.tuple #[.agg #[.int .i64 (d : Int), .int .i64 (p : Int)], .int .i64 (v : Int)]) w' →
      wpList Tryz.prog ops Q rest (a.put o.dst (.tuple #[.bool true, .agg #[.int .i64 (d : Int), .int .i64 (p : Int)], .int .i64 (v : Int)])) w') :
    wpList Tryz.prog ops Q (o :: rest) a w := by
  refine wpList_next_ranges w hg it hop 234 spotK (plainElem Tryz.prog 3) (fun v : Value => v) (Value.int .i64) (fun key kl _ => ⟨key, rfl⟩) (fun v y hv => by obtain ⟨c, rfl, _⟩ := plainElem_int_inv Tryz.underlying3 hv; exact ⟨c, rfl⟩)
    M r c D left cnt hit h (fun _ _ => hDone) fun x e kl y w' cnt' hkey hlk hv hat' hrg hlt hgr hsz' hen => ?_
  obtain ⟨⟨d, p⟩, hmem, rfl⟩ := map_only h.owns hsz hhas K hK hlen hb kl (hl kl hlk)
  obtain ⟨b1, b2, b3⟩ := hb _ hmem
  obtain ⟨v, hf⟩ := Option.isSome_iff_exists.1 b3
  have hx := keyed_inj spotK hkey (keyOf_spot d p b1 b2)
  subst hx
  obtain ⟨e', ee, rfl, _⟩ := plainElem_int_inv Tryz.underlying3 hv
  cases ee
  have hev := (hat' (.lit (.int .i64 0))).symm.trans (hat d p b1 b2 v hf)
  injection hev with hev
  injection hev with _ hev
  subst hev
  exact hMore d p v w' _ cnt' hmem hf hrg (fun kl hk => hl kl (by simp at hk; exact hk.1)) hlt hgr hsz' hen
end

set_option maxHeartbeats 2000000 in
theorem havingOf_any (M n nt ci ct : Nat) (ai at' : Option Addr) (rows : List (List Nat)) (w : World) (hm : MapIs w M (cntTo rows rows.length) (upTo rows rows.length 0)) (hn : rows.length ≤ 60) (hr : ∀ r ∈ rows, r.length ≤ 60 ∧ ∀ x ∈ r, x < nt) (hnt : nt ≤ 100000) :
    Calls Tryz.prog 125 #[.agg #[.slice ai n ci, .slice at' nt ct, .map (some M)]] w fun e w' => ∃ H, e = .returned (.slice (some ⟨H, 0, none⟩) nt nt) ∧ Kp [] w w' := by
  obtain ⟨W, hW⟩ : ∃ W, w.alloc (.cells #[.slice ai n ci, .slice at' nt ct, .map (some M)] 105) = W := ⟨_, rfl⟩
  have k0 : Kp [] w W := by rw [← hW]; exact (Kp.refl _ _).alloc _
  have hsW : w.heap.size < W.heap.size := by rw [← hW]; simp
  have hT : W.heap[w.heap.size]? = some (.cells #[.slice ai n ci, .slice at' nt ct, .map (some M)] 105 (0, 0)) := by rw [← hW]; exact heap_alloc_new w _
  obtain ⟨cs0, hmk, hcs0⟩ := make_sets nt W (by omega)
  obtain ⟨W2, hW2⟩ : ∃ W2, W.alloc (.cells cs0 79) = W2 := ⟨_, rfl⟩
  rw [hW2] at hmk
  have k2 : Kp [] W W2 := by rw [← hW2]; exact (Kp.refl _ _).alloc _
  have hs2 : W.heap.size < W2.heap.size := by rw [← hW2]; simp
  have hH2 : W2.heap[W.heap.size]? = some (.cells cs0 79 (0, 0)) := by rw [← hW2]; exact heap_alloc_new W _
  obtain ⟨D, hown, hszD, hhas, hat⟩ := hm
  have k02 : Kp [] w W2 := k0.next k2
  have hownW := World.ownsMap.kept hown (row := none) (w' := W2) ⟨k02.os, k02.tape, k02.output, k02.size, fun i hi _ => k02.block i hi (by simp)⟩ (by simp)
  have HO := hide hownW
  have HCS := hide hcs0
  have HHA := hide hhas
  have HAT := hide hat
  have HK := hide hH2
  obtain ⟨t0, t1, t2, _, _, _⟩ := tb_cells hT
  have u2 := k2.cellv t2 (by simp)
  have hrowsF : ∀ x ∈ spots rows rows.length, x.1 ≤ 1099511627776 ∧ x.2 ≤ 1099511627776 ∧ (upTo rows rows.length 0 x.1 x.2).isSome = true := by
    intro x hx
    obtain ⟨h1, h2⟩ := spots_mem rows rows.length x hx
    have h3 : rows.getD x.1 [] = rows[x.1] := by simp [List.getD, h1]
    have h4 := hr rows[x.1] (List.getElem_mem h1)
    rw [h3] at h2
    refine ⟨by omega, by omega, ?_⟩
    simp [upTo, h1, h2]
  have HRF := hide hrowsF
  clear hownW hcs0 hhas hat hH2 hrowsF hown
  go_enter Tryz.func125, Tryz.ntmps125
  go_wp2_with (first
    | (at_range; refine wpList_range_own _ rfl _ 103 rfl 234 3 spotK Tryz.underlying103 _ M _ _ rfl HO.out ?_; intro w0 hrg0 hg0 hs0)
    | fail)
  go_frame
  go_loopw [4, 5] (fun _ _ wr => ∃ (left : Lit → Bool) (cnt : Nat) (cs : Array Value), wr.ranges Tryz.prog 234 (plainElem Tryz.prog 3) M W2.heap.size (cntTo rows rows.length) D left cnt ∧ (∀ kl, left kl = true → Maps.has D kl = true) ∧ Kp [] w wr ∧ wr.heap[W.heap.size]? = some (.cells cs 79 (0, 0)) ∧ SetsOk nt cs) (fun _ _ wr => wr.rangeLeft M W2.heap.size)
  case atStart => exact ⟨_, _, cs0, hrg0, fun _ h => h, k02.grown hg0 (by simp), (hg0.block _ hs2 (by simp)).trans HK.out, HCS.out⟩
  case round =>
    obtain ⟨left, cnt, cs, hrg, hl, kr, hH, hcs⟩ := hrel
    have HH := hide hH
    have HC := hide hcs
    clear hH hcs
    go_wp2_with (first
      | (at_next; refine next_spots _ rfl _ rfl M W2.heap.size _ D _ _ rfl hrg hl (upTo rows rows.length 0) hszD HHA.out HAT.out (spots rows rows.length) (spots_nodup rows _) (spots_len rows _) HRF.out ?_ ?_)
      | fail)
    · go_wp2
      go_ret
      exact ⟨_, rfl, kr⟩
    · intro d p v w1 left1 cnt1 hmem hf hrg1 hl1 hlt1 hg1 hs1 hen
      obtain ⟨hd1, hp1⟩ := spots_mem rows rows.length _ hmem
      have hd1 : d < rows.length := hd1
      have hvn : v < nt := by
        have hf' := hf
        simp only [upTo, hd1, true_or, if_true, List.getElem?_eq_getElem, Option.bind_some] at hf'
        exact (hr _ (List.getElem_mem hd1)).2 v (List.mem_of_getElem? hf')
      have hH1 : w1.heap[W.heap.size]? = some (.cells cs 79 (0, 0)) := (hg1.block _ (by have := (Array.getElem?_eq_some_iff.1 HH.out).1; exact this) (by simp; omega)).trans HH.out
      have hsr : W.heap.size < w1.heap.size := (Array.getElem?_eq_some_iff.1 hH1).1
      have kr1 : Kp [] w w1 := kr.grown hg1 (fun k hk => by simp at hk; right; omega)
      obtain ⟨W3, hW3⟩ : ∃ W3, w1.alloc (.cells #[.int .i64 (d : Int), .int .i64 (p : Int)] 234) = W3 := ⟨_, rfl⟩
      have k3 : Kp [] w1 W3 := by rw [← hW3]; exact (Kp.refl _ _).alloc _
      have hs3 : W3.heap.size = w1.heap.size + 1 := by rw [← hW3]; simp
      have hT3 : W3.heap[w1.heap.size]? = some (.cells #[.int .i64 (d : Int), .int .i64 (p : Int)] 234 (0, 0)) := by rw [← hW3]; exact heap_alloc_new w1 _
      have hH3 := k3.heap hH1 (by simp)
      obtain ⟨x, hx, hcx⟩ := HC.out.2 v hvn
      have cx : W3.cell? ⟨W.heap.size, v, none⟩ = some (.int .u64 (x : Int)) := by simp [World.cell?, hH3, hcx]
      have cz : W3.frozen? ⟨W.heap.size, v, none⟩ = false := by simp [World.frozen?, hH3]
      have e0 : W3.cell? ⟨wr.heap.size, 0, none⟩ = some (.int .i64 (d : Int)) := by rw [← hs1]; simp [World.cell?, hT3]
      have hi0 : (0 : Int) ≤ (v : Int) := by omega
      have hi1 : (v : Int) < (nt : Int) := by omega
      have hne : wr.heap.size ≠ W.heap.size := by omega
      have hrg3 := hide (hrg1.kept (w' := W3) (row := none) ⟨k3.os, k3.tape, k3.output, k3.size, fun i hi _ => k3.block i hi (by simp)⟩ (by simp) (by simp))
      have HH3 := hide hH3
      clear hH1 hT3 hH3
      have ks : Kp [W.heap.size] W3 (W3.setCell ⟨W.heap.size, v, none⟩ (.int .u64 ((x ||| 2 ^ d : Nat) : Int))) := (Kp.refl _ _).setCell (.inl (by simp)) _
      have hxd : x ||| 2 ^ d < 18446744073709551616 := Nat.or_lt_two_pow (n := 64) hx (Nat.pow_lt_pow_right (by omega) (by omega))
      obtain ⟨W5, hW5⟩ : ∃ W5, (W3.setCell ⟨W.heap.size, v, none⟩ (.int .u64 ((x ||| 2 ^ d : Nat) : Int))).drew = W5 := ⟨_, rfl⟩
      have ks5 : Kp [W.heap.size] W3 W5 := by rw [← hW5]; exact ks.drewN 1
      have hH5 : W5.heap[W.heap.size]? = some (.cells (cs.setIfInBounds v (.int .u64 ((x ||| 2 ^ d : Nat) : Int))) 79 (0, 0)) := by
        rw [← hW5]; exact heap_setCell_same W3 W.heap.size v cs 79 _ HH3.out
      have hC5 : SetsOk nt (cs.setIfInBounds v (.int .u64 ((x ||| 2 ^ d : Nat) : Int))) := by
        refine ⟨by simp [HC.out.1], fun i hi => ?_⟩
        by_cases hiv : v = i
        · subst hiv
          exact ⟨_, hxd, by rw [Array.getElem?_setIfInBounds_self_of_lt (by rw [HC.out.1]; exact hi)]⟩
        · rw [Array.getElem?_setIfInBounds_ne hiv]
          exact HC.out.2 i hi
      have hMne : M ≠ W.heap.size := by
        intro e
        have h1 := hrg3.out.owns
        obtain ⟨es, cl, h2, _⟩ := h1
        rw [e, HH3.out] at h2; simp at h2
      have hrg5 := hrg3.out.kept (w' := W5) (row := some W.heap.size) ⟨ks5.os, ks5.tape, ks5.output, ks5.size, fun i hi hne' => ks5.block i hi (by simpa using hne')⟩ (by simpa using hMne) (by simp; omega)
      have kw5 : Kp [] w W5 := (kr1.next k3).trans ks5 (by simp; omega)
      have hfin : Hid (∃ (left : Lit → Bool) (cnt : Nat) (cs : Array Value), W5.ranges Tryz.prog 234 (plainElem Tryz.prog 3) M W2.heap.size (cntTo rows rows.length) D left cnt ∧ (∀ kl, left kl = true → Maps.has D kl = true) ∧ Kp [] w W5 ∧ W5.heap[W.heap.size]? = some (.cells cs 79 (0, 0)) ∧ SetsOk nt cs) := hide ⟨_, _, _, hrg5, hl1, kw5, hH5, hC5⟩
      have hme : Hid (W5.rangeLeft M W2.heap.size < wr.rangeLeft M W2.heap.size) := hide (by rw [hrg5.left_eq, hrg.left_eq]; exact hlt1)
      clear hH5 hC5 hrg5 kw5 ks5 ks hMne
      go_wp2_with fail
      go_region_with (go_at_call 120; refine (with_any x d W3.drew hx (by omega)).mono ?_; rintro r w4 ⟨rfl, rfl⟩)
      all_goals
        try rw [hW5]
        go_wp2_with fail
        go_roundw
        case rel => exact hfin.out
        case measure => exact hme.out
end Go.Proofs.YtnffagpdnklnkaaGreatDoor.Pak


namespace Go.Proofs.YtnffagpdnklnkaaGreatDoor.Pak
open Go.RowKit Go.Proofs.YtnffagpdnklnkaaGreatDoor Go.Proofs.YtnffagpdnklnkaaGreatDoor.Spl SiftM Go.Maps
theorem slot_mono {a b : UInt8} (ha : St.Sm a) (hb : St.Sm b) (h : a < b) : St.slot a < St.slot b := by
  have h' : a.toNat < b.toNat := UInt8.lt_iff_toNat_lt.1 h
  unfold St.slot
  unfold St.Sm at ha hb
  split <;> split <;> omega
theorem sw_lt : ∀ {t u : List UInt8}, St.Small t → St.Small u → t < u → St.wlt (St.sw t) (St.sw u)
  | [], [], _, _, h => by simp at h
  | [], _ :: _, _, _, _ => trivial
  | _ :: _, [], _, _, h => by simp at h
  | a :: t, b :: u, ht, hu, h => by
    rcases List.cons_lt_cons_iff.1 h with h1 | ⟨rfl, h1⟩
    · exact .inl (slot_mono (ht a (by simp)) (hu b (by simp)) h1)
    · exact .inr ⟨rfl, sw_lt (fun c hc => ht c (by simp [hc])) (fun c hc => hu c (by simp [hc])) h1⟩
theorem sm_of {c : UInt8} (h : isSm c = true) : St.Sm c := by
  unfold isSm at h
  unfold St.Sm
  simp at h
  omega
theorem fine_small (T : List Tx) (hf : Fine T) : ∀ t ∈ termsOf T, St.Small t := by
  intro x hx c hc
  obtain ⟨t, ht, hxt⟩ := (allW_iff T x).1 ((terms_mem T x).1 hx)
  have := hf.word t ht x hxt
  unfold isWord at this
  simp only [Bool.and_eq_true, List.all_eq_true] at this
  exact sm_of (this.2 c hc)
theorem fine_srt (T : List Tx) (hf : Fine T) : St.Srt ((termsOf T).map St.sw) := by
  unfold St.Srt
  rw [List.pairwise_map]
  exact (terms_pw T).imp_of_mem fun ha hb h => sw_lt (fine_small T hf _ ha) (fine_small T hf _ hb) h
theorem fine_rows (T : List Tx) (hf : Fine T) : ∀ r ∈ rowsOf T, r.length ≤ 60 ∧ ∀ x ∈ r, x < (termsOf T).length := by
  intro r hr
  refine ⟨?_, rows_lt T r hr⟩
  unfold rowsOf at hr
  obtain ⟨t, ht, rfl⟩ := List.mem_map.1 hr
  simp only [List.length_map]
  exact hf.few t ht

/-- A segment of these docs lies at P, all that belongs to it between B and E. -/
structure SegIs (w : World) (B E P num : Nat) (T : List Tx) (iv tv : Value) (M : Nat) : Prop where
  cells : ∃ M2 aa ca st H, w.heap[P]? = some (.cells #[.int .i64 (num : Int), iv, tv, .map (some M), .map (some M2), .slice aa ((St.refSets (termsOf T)).length + 1) ca, .int .i64 st, .slice (some ⟨H, 0, none⟩) (termsOf T).length (termsOf T).length, .int .i64 (((bodyT T).length + 4 : Nat) : Int)] 113 (0, 0))
  ids : w.ownsRow B 3 1 iv T.length (intV (T.map Prod.fst))
  terms : w.ownsRow B 9 1 tv (termsOf T).length (strV (termsOf T))
  at' : MapIs w M (cntTo (rowsOf T) T.length) (upTo (rowsOf T) T.length 0)
  lowP : B ≤ P
  lowM : B ≤ M
  highP : P < E
  highM : M < E
  highI : ∀ g, iv.ownBlock = some g → g < E
  highT : ∀ g, tv.ownBlock = some g → g < E
theorem MapIs.kp' {S : List Nat} {w w' : World} {M c : Nat} {f : Nat → Nat → Option Nat} (h : MapIs w M c f) (k : Kp S w w') (hM : M ∉ S) : MapIs w' M c f := by
  obtain ⟨D, hown, hrest⟩ := h
  have hlt := hown.lt
  obtain ⟨es, clock, hb, F, hs, hD⟩ := hown
  exact ⟨D, ⟨es, clock, (k.block M hlt hM).trans hb, F, hs, hD⟩, hrest⟩
theorem SegIs.kp {S : List Nat} {w w' : World} {B E P num M : Nat} {T : List Tx} {iv tv : Value} (h : SegIs w B E P num T iv tv M) (k : Kp S w w') (hS : ∀ x ∈ S, x < B ∨ E ≤ x) : SegIs w' B E P num T iv tv M := by
  have no : ∀ x, B ≤ x → x < E → x ∉ S := fun x h1 h2 hx => by rcases hS x hx with h3 | h3 <;> omega
  obtain ⟨M2, aa, ca, st, H, hc⟩ := h.cells
  exact ⟨⟨M2, aa, ca, st, H, k.heap hc (no P h.lowP h.highP)⟩, k.owns h.ids (fun g hg => no g (h.ids.lt g hg).1 (h.highI g hg)), k.owns h.terms (fun g hg => no g (h.terms.lt g hg).1 (h.highT g hg)),
    h.at'.kp' k (no M h.lowM h.highM), h.lowP, h.lowM, h.highP, h.highM, h.highI, h.highT⟩
theorem tv_of {w : World} {B n : Nat} {a : Option Addr} {c : Nat} {L : List (List UInt8)} (h : w.ownsRow B 9 1 (.slice a n c) L.length (strV L)) : Tv w w.heap.size a L := by
  by_cases h0 : L.length = 0
  · exact .inl (List.length_eq_zero_iff.1 h0)
  · obtain ⟨a', c', e, hh⟩ := owns_forms h
    cases e
    obtain ⟨g, rfl⟩ := hh (by omega)
    refine .inr ⟨g, 0, rfl, (h.lt g rfl).2, fun i hi => ?_⟩
    have := h.cells (g := g) rfl i (.string ⟨L[i].toArray⟩) (by simp [strV, hi])
    rw [Addr.add_mid] at this
    exact this
end Go.Proofs.YtnffagpdnklnkaaGreatDoor.Pak
namespace Go.Proofs.YtnffagpdnklnkaaGreatDoor.Pak
open Go.RowKit Go.Proofs.YtnffagpdnklnkaaGreatDoor Go.Proofs.YtnffagpdnklnkaaGreatDoor.Spl SiftM
def dxs (T : List Tx) (vs : List Value) (fl : List Bool) : List Dx := (T.map Prod.fst).zip (vs.zip fl)
/-- The document's docs, with their marks. -/
structure DocsM (w : World) (base : Nat) (v : Value) (T : List Tx) (vs : List Value) (fl : List Bool) : Prop where
  len : vs.length = T.length
  flen : fl.length = T.length
  row : w.ownsRow base 266 3 v T.length (tx3d (dxs T vs fl))
  each : ∀ i (h : i < T.length) (h2 : i < vs.length), w.ownsRow base 9 1 vs[i] T[i].2.length (strV T[i].2)
/-- A segment of the document's index. -/
structure RSg where
  num : Nat
  v : Value
  T : List Tx
  vs : List Value
  fl : List Bool
def sg2 (L : List RSg) : List Value := L.flatMap fun s => [Value.int .i64 (s.num : Int), s.v]
/-- The segments of the document's index. -/
structure RSegs (w : World) (base : Nat) (v : Value) (L : List RSg) : Prop where
  row : w.ownsRow base 287 2 v L.length (sg2 L)
  each : ∀ s ∈ L, DocsM w base s.v s.T s.vs s.fl ∧ Fine s.T ∧ s.num ≤ 1000000000
def deadN (fl : List Bool) : Nat := (fl.filter id).length
theorem info277 : (Tryz.prog.info? 41).map (fun i => (i.zero, i.size, i.bytes)) = some (some (.agg #[.int .i64 0, .int .i64 0, .int .i64 0, .int .i64 0, .int .i64 0, .int .i64 0]), 6, 48) := by kernel_rfl
/-- A doc and the list of its words. -/
abbrev Pr := Tx × Value
/-- The docs of a segment that are not dead, of the first k. -/
def zsOf (s : RSg) : List (Pr × Bool) := (s.T.zip s.vs).zip s.fl
def liveZ (zs : List (Pr × Bool)) : List Pr := (zs.filter fun z => !z.2).map Prod.fst
def liveL (L : List RSg) : List Pr := L.flatMap fun s => liveZ (zsOf s)
/-- What the document's index holds: its bounds, the texts that are loose, the segments, the readers' cells. -/
structure RSt where
  buf : Nat
  fac : Nat
  next : Nat
  lv : Value
  sv : Value
  T : List Tx
  vs : List Value
  L : List RSg
  R : List Value
def ixE : List Value := [.bool false, .slice none 0 0, .slice none 0 0, .slice none 0 0, .int .i64 (-1), .bool false, .int .i64 0, .slice none 0 0, .int .i64 0]
def ixA (s : RSt) : List Value := [.int .i64 (s.buf : Int), .int .i64 (s.fac : Int), s.lv, s.sv, .int .i64 (s.next : Int)]
def ixC (s : RSt) : Array Value := (ixA s ++ (s.R ++ ixE)).toArray
def RSt.pairs (s : RSt) : List Pr := s.T.zip s.vs ++ liveL s.L
/-- The readers' cells: of each whether it is open, and its view. -/
def RdOk (R : List Value) : Prop := R.length = 8 ∧ ∀ i, i < 4 → ∃ b, R[2 * i]? = some (.bool b)
/-- The document's index lies at X, all its blocks are among O. -/
structure RIs (w : World) (X B : Nat) (O : List Nat) (s : RSt) : Prop where
  blk : w.heap[X]? = some (.cells (ixC s) 187 (0, 0))
  rd : RdOk s.R
  low : B ≤ w.heap.size
  loose : DocsIs w B s.lv s.T s.vs
  word : ∀ t ∈ s.T, t.1 ≤ 99999 ∧ t.2.length ≤ 60 ∧ (lenF t.2 ≤ 120 ∧ sumL t.2 ≤ 121) ∧ ∀ x ∈ t.2, isWord x = true
  segs : RSegs w B s.sv s.L
  cnt : s.L.length ≤ s.next
  all60 : s.pairs.length ≤ 60
  nodup : ((s.pairs.map Prod.fst).map Prod.fst).Nodup
  inX : X ∈ O
  inL : ∀ g, s.lv.ownBlock = some g → g ∈ O
  inS : ∀ g, s.sv.ownBlock = some g → g ∈ O
  inD : ∀ t ∈ s.L, ∀ g, t.v.ownBlock = some g → g ∈ O
  inW : ∀ u ∈ s.vs, ∀ g, u.ownBlock = some g → g ∈ O
  inV : ∀ t ∈ s.L, ∀ u ∈ t.vs, ∀ g, u.ownBlock = some g → g ∈ O
  apart : ∀ t ∈ s.L, ∀ g, t.v.ownBlock = some g → s.lv.ownBlock ≠ some g
  apart2 : s.L.Pairwise fun t u => ∀ g, t.v.ownBlock = some g → u.v.ownBlock ≠ some g
theorem rs_sorted : ∀ (T : List Tx) (least : Nat), SortT T → (∀ t ∈ T, least ≤ t.1) → Rs least (T.map Prod.fst)
  | [], _, _, _ => trivial
  | t :: r, least, h, hl => by
    obtain ⟨h1, h2⟩ := List.pairwise_cons.1 h
    exact ⟨hl t (by simp), rs_sorted r (t.1 + 1) h2 fun u hu => h1 u hu⟩
end Go.Proofs.YtnffagpdnklnkaaGreatDoor.Pak
namespace Go.Proofs.YtnffagpdnklnkaaGreatDoor.ChkM
def isSm (c : UInt8) : Bool := (decide (97 ≤ c.toNat) && decide (c.toNat ≤ 122)) || (decide (48 ≤ c.toNat) && decide (c.toNat ≤ 57))

/-! The reading by descent. -/
def takeC (c : UInt8) : List UInt8 → Bool × List UInt8
  | [] => (false, [])
  | a :: t => if a = c then (true, t) else (false, a :: t)
def wordLen : Nat → List UInt8 → Nat
  | 0, _ => 0
  | _ + 1, [] => 0
  | n + 1, a :: t => if isSm a then wordLen n t + 1 else 0
def wordP (l : List UInt8) : Bool × List UInt8 := (decide (0 < wordLen 8 l), l.drop (wordLen 8 l))
def phraseP : Nat → List UInt8 → Bool × List UInt8
  | 0, l => (false, l)
  | f + 1, l => if (wordP l).1 then (if (takeC 32 (wordP l).2).1 then phraseP f (takeC 32 (wordP l).2).2 else takeC 34 (wordP l).2) else (false, (wordP l).2)
def termP (l : List UInt8) : Bool × List UInt8 := if (wordP l).1 then (true, (takeC 42 (wordP l).2).2) else (false, (wordP l).2)
def ps : Nat → Nat → Nat → List UInt8 → Bool × List UInt8
  | 0, _, _, l => (false, l)
  | f + 1, 0, d, l =>
    if d < 5 ∧ (takeC 33 l).1 = true then ps f 0 (d + 1) (takeC 33 l).2
    else if d < 5 ∧ (takeC 40 l).1 = true then
      (if (ps f 2 (d + 1) (takeC 40 l).2).1 then takeC 41 (ps f 2 (d + 1) (takeC 40 l).2).2 else (false, (ps f 2 (d + 1) (takeC 40 l).2).2))
    else if (takeC 34 l).1 then phraseP (l.length + 1) (takeC 34 l).2
    else termP l
  | f + 1, 1, d, l => if (ps f 0 d l).1 then (if (takeC 38 (ps f 0 d l).2).1 then ps f 1 d (takeC 38 (ps f 0 d l).2).2 else (true, (ps f 0 d l).2)) else (false, (ps f 0 d l).2)
  | f + 1, _ + 2, d, l => if (ps f 1 d l).1 then (if (takeC 124 (ps f 1 d l).2).1 then ps f 2 d (takeC 124 (ps f 1 d l).2).2 else (true, (ps f 1 d l).2)) else (false, (ps f 1 d l).2)

/-! The stations. -/
structure St where
  at_ : Nat
  n : Nat
  deep : Nat
  op : List Nat
def acc (s : St) : Prop := (s.at_ = 1 ∨ s.at_ = 2) ∧ s.op = []
end Go.Proofs.YtnffagpdnklnkaaGreatDoor.ChkM
namespace Go.Proofs.YtnffagpdnklnkaaGreatDoor
open Go.RowKit ChkM
theorem hide {p : Prop} (h : p) : Hid p := h
theorem ret_int {k : IntKind} {a b : Int} (h : a = b) : Ending.returned (.int k a) = .returned (.int k b) := by rw [h]
theorem ret_bool {a b : Bool} (h : a = b) : Ending.returned (.bool a) = .returned (.bool b) := by rw [h]

theorem isSm_int (c : UInt8) : isSm c = (decide ((97 : Int) ≤ c.toNat) && decide ((c.toNat : Int) ≤ 122) || decide ((48 : Int) ≤ c.toNat) && decide ((c.toNat : Int) ≤ 57)) := by
  rw [Bool.eq_iff_iff]; simp [isSm]; omega

set_option maxHeartbeats 400000 in
theorem small_any (c : UInt8) (w : World) :
    Calls Tryz.prog 182 #[.int .u8 c.toNat] w fun e w' => e = .returned (.bool (isSm c)) ∧ w' = w := by
  have hs := hide (isSm_int c)
  by_cases h1 : (97 : Int) ≤ (c.toNat : Int)
  · by_cases h2 : (c.toNat : Int) ≤ 122
    · go_enter Tryz.func182, Tryz.ntmps182
      go_wp2
      go_ret
      exact ⟨ret_bool (by rw [hs.out]; simp [h1, h2]), rfl⟩
    · have h3 : (48 : Int) ≤ (c.toNat : Int) := by omega
      have h4 : ¬ (c.toNat : Int) ≤ 57 := by omega
      go_enter Tryz.func182, Tryz.ntmps182
      go_wp2
      go_ret
      exact ⟨ret_bool (by rw [hs.out]; simp; omega), rfl⟩
  · by_cases h3 : (48 : Int) ≤ (c.toNat : Int)
    · by_cases h4 : (c.toNat : Int) ≤ 57
      · go_enter Tryz.func182, Tryz.ntmps182
        go_wp2
        go_ret
        exact ⟨ret_bool (by rw [hs.out]; simp; omega), rfl⟩
      · go_enter Tryz.func182, Tryz.ntmps182
        go_wp2
        go_ret
        exact ⟨ret_bool (by rw [hs.out]; simp; omega), rfl⟩
    · go_enter Tryz.func182, Tryz.ntmps182
      go_wp2
      go_ret
      exact ⟨ret_bool (by rw [hs.out]; simp; omega), rfl⟩
end Go.Proofs.YtnffagpdnklnkaaGreatDoor
namespace Go.Proofs.YtnffagpdnklnkaaGreatDoor
open Go.RowKit ChkM
open Pak (Kp)
theorem kp_drew {S : List Nat} {a w : World} (h : Kp S a w) : Kp S a w.drew := ⟨h.os, h.tape, h.output, h.size, h.block⟩
theorem kp_append {wq w1 : World} {o : Obj} {row : Option Nat} (hg : (wq.alloc o).drew.grownBy w1 row) : Kp row.toList wq w1 :=
  (kp_drew ((Kp.refl _ wq).alloc o)).grown hg (fun k hk => .inl (by simp [hk]))
theorem kp_set (w : World) (Q j : Nat) (v : Value) : Kp [Q] w (w.setCell ⟨Q, j, none⟩ v) := (Kp.refl [Q] w).setCell (.inl (by simp)) _
end Go.Proofs.YtnffagpdnklnkaaGreatDoor
namespace Go.Proofs.YtnffagpdnklnkaaGreatDoor.Pak
open Go.RowKit Go.Proofs.YtnffagpdnklnkaaGreatDoor Go.Proofs.YtnffagpdnklnkaaGreatDoor.Spl SiftM
theorem owns_ne_type {w : World} {X base size n : Nat} {e t : TypeId} {v : Value} {xs : List Value} {cs : Array Value} {fr : Nat × Nat} (h : w.ownsRow base e size v n xs) (hX : w.heap[X]? = some (.cells cs t fr)) (hne : e ≠ t) : v.ownBlock ≠ some X := by
  intro ee
  rcases h.2 with ⟨rfl, _⟩ | ⟨g, cap, cur, rfl, _, hb, _⟩
  · simp [Value.ownBlock] at ee
  · simp [Value.ownBlock] at ee
    subst ee
    rw [hX] at hb
    simp at hb
    exact hne hb.2.1.symm
/-- The docs of an id, among the first k of a segment, are dead. -/
def markTo (id k : Nat) (t : RSg) : RSg := { t with fl := t.fl.mapIdx fun j b => b || (decide (j < k) && decide ((t.T.map Prod.fst)[j]? = some id)) }
def mark (id : Nat) (t : RSg) : RSg := markTo id t.T.length t
/-- What is new from one world to the next belongs to whoever made it. -/
def grow (O : List Nat) (w w' : World) : List Nat := O ++ List.range' w.heap.size (w'.heap.size - w.heap.size)
theorem mem_grow {O : List Nat} {w w' : World} {g : Nat} : g ∈ grow O w w' ↔ g ∈ O ∨ (w.heap.size ≤ g ∧ g < w'.heap.size) := by
  unfold grow
  rw [List.mem_append, List.mem_range'_1]
  constructor
  · rintro (h | ⟨h1, h2⟩)
    · exact .inl h
    · exact .inr ⟨h1, by omega⟩
  · rintro (h | ⟨h1, h2⟩)
    · exact .inl h
    · exact .inr ⟨h1, by omega⟩
theorem kp_grow {O : List Nat} {w w1 w2 : World} (h : Kp O w w1) (k : Kp (grow O w w1) w1 w2) : Kp O w w2 :=
  h.trans k fun x hx => by
    rcases mem_grow.1 hx with h1 | h1
    · exact .inl h1
    · exact .inr h1.1
/-- A segment, and an index, without the memory in which they lie. -/
structure DSg where
  num : Nat
  T : List Tx
  fl : List Bool
structure DSt where
  buf : Nat
  fac : Nat
  next : Nat
  T : List Tx
  L : List DSg
  R : List Bool
def DSg.live (t : DSg) : List Tx := ((t.T.zip t.fl).filter fun z => !z.2).map Prod.fst
def DSt.all (d : DSt) : List Tx := d.T ++ d.L.flatMap DSg.live
def DSt.ids (d : DSt) : List Nat := d.all.map Prod.fst
def sortX (T : List Tx) : List Tx := T.mergeSort fun a b => decide (a.1 ≤ b.1)
def markF (id : Nat) (T : List Tx) (fl : List Bool) : List Bool := fl.mapIdx fun j b => b || (decide (j < T.length) && decide ((T.map Prod.fst)[j]? = some id))
def DSg.mark (id : Nat) (t : DSg) : DSg := { t with fl := markF id t.T t.fl }
def DSt.gone (d : DSt) (id : Nat) : DSt := { d with T := d.T.filter (fun t => !decide (t.1 = id)), L := d.L.map (DSg.mark id) }
def DSt.flush (d : DSt) : DSt := if d.T = [] then d else { d with T := [], L := d.L ++ [⟨d.next, sortX d.T, List.replicate d.T.length false⟩], next := d.next + 1 }
def DSt.put (d : DSt) (t : Tx) : DSt := { d with T := d.T ++ [t] }
def DSt.addE (d : DSt) (id : Int) (b : ByteArray) : Int := if id < 0 ∨ 99999 < id then 3 else if 120 < b.size then 4 else if id.toNat ∉ d.ids ∧ 60 ≤ d.all.length then 5 else 0
def DSt.add1 (d : DSt) (id : Nat) (ws : List (List UInt8)) : DSt := if d.buf ≤ ((d.gone id).put (id, ws)).T.length then ((d.gone id).put (id, ws)).flush else (d.gone id).put (id, ws)
def DSt.add (d : DSt) (id : Int) (b : ByteArray) : DSt := if d.addE id b = 0 then d.add1 id.toNat (wordsB b) else d
def DSt.delE (d : DSt) (id : Int) : Int := if id < 0 ∨ 99999 < id then 3 else if id.toNat ∉ d.ids then 6 else 0
def DSt.del (d : DSt) (id : Int) : DSt := if d.delE id = 0 then d.gone id.toNat else d
/-- Which readers are open. -/
def isOn : Option Value → Bool
  | some (.bool b) => b
  | _ => false
def opens (R : List Value) : List Bool := (List.range 4).map fun i => isOn R[2 * i]?
def RSg.abs (t : RSg) : DSg := ⟨t.num, t.T, t.fl⟩
def RSt.abs (s : RSt) : DSt := ⟨s.buf, s.fac, s.next, s.T, s.L.map RSg.abs, opens s.R⟩

theorem sortX_eq {T T' : List Tx} (hp : T'.Perm T) (hs : SortT T') : T' = sortX T := by
  have hnd : (T.map Prod.fst).Nodup := by
    have h1 : (T'.map Prod.fst).Nodup := by
      refine List.Pairwise.imp (R := (· < ·)) (fun {a b} h => by omega) ?_
      rw [List.pairwise_map]; exact hs
    exact (hp.map Prod.fst).nodup_iff.1 h1
  have h2 : (sortX T).Pairwise fun a b => decide (a.1 ≤ b.1) = true :=
    List.pairwise_mergeSort (fun a b c h1 h2 => by simp at h1 h2 ⊢; omega) (fun a b => by simp; omega) _
  have hp2 : (sortX T).Perm T := List.mergeSort_perm _ _
  have h3 : SortT (sortX T) := by
    have h4 : ((sortX T).map Prod.fst).Nodup := (hp2.map Prod.fst).nodup_iff.2 hnd
    have h5 : (sortX T).Pairwise fun a b => a.1 ≠ b.1 := List.pairwise_map.1 h4
    unfold SortT
    refine (h2.and h5).imp ?_
    rintro a b ⟨h6, h7⟩
    simp at h6
    omega
  exact (hp.trans hp2.symm).eq_of_pairwise (fun a b _ _ h1 h2 => by omega) hs h3
end Go.Proofs.YtnffagpdnklnkaaGreatDoor.Pak
