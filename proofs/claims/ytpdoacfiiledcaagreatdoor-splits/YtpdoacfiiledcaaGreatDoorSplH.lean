import Derived.Test.YtpdoacfiiledcaaGreatDoorSplG
import Derived.Test.YtpdoacfiiledcaaGreatDoorItoa
import Derived.Lib.AppendIntMem
import Derived.Lib.ItoaLen
import Derived.Deep.AppendLies
namespace Go.Proofs.YtpdoacfiiledcaaGreatDoor.Spl
open Go.RowKit Go.Proofs.YtpdoacfiiledcaaGreatDoor Go.Proofs.YtpdoacfiiledcaaGreatDoor.SiftM
set_option linter.unusedVariables false

/-- The table of powers, whatever is done from block B on. -/
def Tab (B : Nat) (w : World) : Prop := Lib.TabBelow Tryz.prog B w "internal/strconv.uint64pow10" .u64 Lib.pow10Tab
/-- The mark of a number. -/
def tx (m : Nat) : ByteArray := ⟨([40] ++ Lib.itoa m ++ [41]).toArray⟩
theorem tab_on {B : Nat} {w w1 : World} (h : Tab B w) (hb : Below B w w1) : Tab B w1 := Lib.TabBelow.on h hb
theorem tab_drew {B : Nat} {w : World} (h : Tab B w) : Tab B w.drew := tab_on h ⟨rfl, rfl, rfl, Nat.le_refl _, fun _ _ => rfl⟩
theorem below_grow (B : Nat) (w : World) (k : Nat) (os : Array Obj) (hB : B ≤ w.heap.size) : Below B w (Sort.grow (w.drewN k) os) :=
  ⟨rfl, rfl, rfl, by show w.heap.size ≤ (w.heap ++ os).size; simp, fun j hj => by
    show (w.heap ++ os)[j]? = w.heap[j]?
    rw [Array.getElem?_append_left (by omega)]⟩

set_option maxHeartbeats 400000 in
theorem text_any (B m : Nat) (w : World) (hm : m ≤ 9223372036854775807) (hT : Tab B w) :
    Calls Tryz.prog 186 #[.int .i64 m] w fun e w' => e = .returned (.string (tx m)) ∧ Below w.heap.size w w' := by
  have hlen := Lib.itoa_length_le (m : Int) (by omega) (by omega)
  go_enter Tryz.func186, Tryz.ntmps186
  go_wp2_with fail
  refine (Tryz.strconv_Itoa (m : Int) (by omega) (by omega) _ hT.here).mono ?_
  rintro e w1 ⟨rfl, k, os, rfl⟩
  have hq : ¬ 9223372036854775807 < 1 + (Lib.itoa (m : Int)).length := by omega
  go_wp2_with fail
  go_ret
  refine ⟨ret_str ?_, below_grow _ _ _ _ (Nat.le_refl _)⟩
  unfold tx
  show ByteArray.mk ([40] : List UInt8).toArray ++ ByteArray.mk (Lib.itoa (m : Int)).toArray ++ ByteArray.mk ([41] : List UInt8).toArray = _
  rw [Go.ByteArray.mk_append_mk, Go.ByteArray.mk_append_mk]

/-- A list of k entries, each the mark m. -/
def Mk (w : World) (u : Value) (k m : Nat) : Prop :=
  ∃ a cap, u = .slice a k cap ∧ (0 < k → ∃ g, a = some ⟨g, 0, none⟩ ∧ (∃ cs fz, w.heap[g]? = some (.cells cs 9 fz)) ∧ ∀ j, j < k → w.cell? ⟨g, j, none⟩ = some (.string (tx m)))

theorem mk_later {w w' : World} {u : Value} {k m : Nat} (h : Mk w u k m) (hb : Below w.heap.size w w') : Mk w' u k m := by
  obtain ⟨a, cap, hu, hc⟩ := h
  refine ⟨a, cap, hu, fun hk => ?_⟩
  obtain ⟨g, hg, ⟨cs, fz, hh⟩, hcell⟩ := hc hk
  have hlt : g < w.heap.size := by
    rcases Nat.lt_or_ge g w.heap.size with h' | h'
    · exact h'
    · rw [Array.getElem?_eq_none h'] at hh; simp at hh
  exact ⟨g, hg, ⟨cs, fz, by rw [hb.block g hlt]; exact hh⟩, fun j hj => by rw [hb.cell (p := ⟨g, j, none⟩) hlt]; exact hcell j hj⟩

set_option maxHeartbeats 400000 in
theorem allS_zero (a : Option Addr) (cap m : Nat) (w : World) :
    Calls Tryz.prog 120 #[.slice a 0 cap, .int .i64 m] w fun e w' => e = .returned (.bool true) ∧ Below w.heap.size w w' := by
  go_enter Tryz.func120, Tryz.ntmps120
  go_wp2_with fail
  refine wp_loop_rounds 1 ?_
  rw [rounds_succ]
  go_wp2_with fail
  go_ret
  exact ⟨rfl, Below.refl _ _⟩

set_option maxHeartbeats 1000000 in
set_option maxRecDepth 100000 in
theorem allS_some (B g n cap m : Nat) (w : World) (hm : m ≤ 9223372036854775807) (hT : Tab B w) (hB : B ≤ w.heap.size) (hn : n ≤ 1000) (hg : g < w.heap.size) (hc : ∀ j, j < n → w.cell? ⟨g, j, none⟩ = some (.string (tx m))) :
    Calls Tryz.prog 120 #[.slice (some ⟨g, 0, none⟩) n cap, .int .i64 m] w fun e w' => e = .returned (.bool true) ∧ Below w.heap.size w w' := by
  replace hc := hide hc
  go_enter Tryz.func120, Tryz.ntmps120
  go_wp2_with fail
  go_loopw [5] (fun i wr => ∃ k : Nat, k ≤ n ∧ i = .int .i64 k ∧ Below w.heap.size w wr) (fun i _ => n - (intOf i).toNat)
  case atStart => exact ⟨0, Nat.zero_le _, rfl, Below.refl _ _⟩
  case round =>
    obtain ⟨k, hk, rfl, hb⟩ := hrel
    have hbz := hb.size
    by_cases hlt : k < n
    · have h1 : wr.cell? ⟨g, k, none⟩ = some (.string (tx m)) := by rw [hb.cell (p := ⟨g, k, none⟩) hg]; exact hc.out k hlt
      have h3 : (k : Int) < (n : Int) := by omega
      have h4 : (0 : Int) ≤ (k : Int) := by omega
      have hT1 := hide (tab_on hT (hb.mono hB))
      go_wp2_with fail
      go_region_held3 (fun w2 => w2.cell? ⟨g, k, none⟩ = some (.string (tx m))) (first | (rw [hb1.cell (by simp; omega)]; assumption) | go_keep)
        ((go_at_call 186; refine (text_any B m _ hm (tab_drew hT1.out)).mono ?_; rintro e w1 ⟨rfl, hb1⟩))
      go_wp2_with fail
      exact ⟨⟨k + 1, by omega, by go_num, hb.trans (((Below.refl _ _).drew).trans (hb1.mono (by show w.heap.size ≤ wr.heap.size; omega)))⟩, by simp [intOf]; omega⟩
    · go_wp2_with fail
      go_ret
      exact ⟨rfl, hb⟩

theorem allS_any (B k m : Nat) (u : Value) (w : World) (hm : m ≤ 9223372036854775807) (hT : Tab B w) (hB : B ≤ w.heap.size) (hk : k ≤ 1000) (h : Mk w u k m) :
    Calls Tryz.prog 120 #[u, .int .i64 m] w fun e w' => e = .returned (.bool true) ∧ Below w.heap.size w w' := by
  obtain ⟨a, cap, rfl, hc⟩ := h
  by_cases h0 : k = 0
  · subst h0; exact allS_zero a cap m w
  · obtain ⟨g, rfl, ⟨cs, fz, hh⟩, hcell⟩ := hc (by omega)
    have hlt : g < w.heap.size := by
      rcases Nat.lt_or_ge g w.heap.size with h' | h'
      · exact h'
      · rw [Array.getElem?_eq_none h'] at hh; simp at hh
    exact allS_some B g k cap m w hm hT hB hk hlt hcell

/-- What is kept of a list that came out. -/
structure Kept (w : World) (l o t h : Value) (n m : Nat) : Prop where
  a : Mk w l n m
  b : Mk w o (n + 1) m
  c : Mk w t (n + 2) m
  d : Mk w h (n + 3) m
  hn : n ≤ 900
theorem kept_later {w w' : World} {l o t h : Value} {n m : Nat} (k : Kept w l o t h n m) (hb : Below w.heap.size w w') : Kept w' l o t h n m :=
  ⟨mk_later k.a hb, mk_later k.b hb, mk_later k.c hb, mk_later k.d hb, k.hn⟩

theorem box5 {w w1 : World} {cs : Array Value} {t : TypeId} {j : Nat} {x : Value} (hj : cs[j]? = some x) (hb : Below (w.heap.size + 1) (w.alloc (.cells cs t)) w1) : w1.cell? ⟨w.heap.size, j, none⟩ = some x := by
  rw [hb.cell (by show w.heap.size < _; omega), World.cell?_alloc_at _ _ _ _ rfl]; exact hj

set_option maxHeartbeats 1000000 in
set_option maxRecDepth 100000 in
theorem still_any (B n m : Nat) (l o t h : Value) (w : World) (hm : m ≤ 9223372036854775807) (hT : Tab B w) (hB : B ≤ w.heap.size) (hk : Kept w l o t h n m) :
    Calls Tryz.prog 49 #[.agg #[l, o, t, h, .int .i64 m]] w fun e w' => e = .returned (.bool true) ∧ Below w.heap.size w w' := by
  have hn := hk.hn
  have hb0 : Below w.heap.size w (w.alloc (.cells #[l, o, t, h, .int .i64 m] 111)) := (Below.refl _ _).alloc (Nat.le_refl _) _
  have hk0 := hide (kept_later hk hb0)
  have hT0 := hide (tab_on hT (hb0.mono hB))
  replace hT := hide hT
  go_enter Tryz.func49, Tryz.ntmps49
  go_wp2_with fail
  refine (allS_any B n m l _ hm hT0.out (by simp; omega) (by omega) hk0.out.a).mono ?_
  rintro e w1 ⟨rfl, hb1⟩
  rw [World.size_alloc] at hb1
  have hz1 : w.heap.size + 1 ≤ w1.heap.size := by simpa using hb1.size
  have c1 := box5 (j := 1) rfl hb1
  have c4 := box5 (j := 4) rfl hb1
  have hk1 := hide (kept_later hk0.out (hb1.mono (by simp)))
  have hT1 := hide (tab_on hT0.out (hb1.mono (by omega)))
  go_wp2_with fail
  refine (allS_any B (n + 1) m o _ hm hT1.out (by omega) (by omega) hk1.out.b).mono ?_
  rintro e w2 ⟨rfl, hb2⟩
  have hz2 := hb2.size
  have hb2' := hb1.trans (hb2.mono hz1)
  have d2 := box5 (j := 2) rfl hb2'
  have d4 := box5 (j := 4) rfl hb2'
  have hk2 := hide (kept_later hk1.out hb2)
  have hT2 := hide (tab_on hT1.out (hb2.mono (by omega)))
  clear c1 c4 hb2
  go_wp2_with fail
  refine (allS_any B (n + 2) m t _ hm hT2.out (by omega) (by omega) hk2.out.c).mono ?_
  rintro e w3 ⟨rfl, hb3⟩
  have hz3 := hb3.size
  have hb3' := hb2'.trans (hb3.mono (by omega))
  have e3 := box5 (j := 3) rfl hb3'
  have e4 := box5 (j := 4) rfl hb3'
  have hk3 := hide (kept_later hk2.out hb3)
  have hT3 := hide (tab_on hT2.out (hb3.mono (by omega)))
  clear d2 d4 hb3
  go_wp2_with fail
  refine (allS_any B (n + 3) m h _ hm hT3.out (by omega) (by omega) hk3.out.d).mono ?_
  rintro e w4 ⟨rfl, hb4⟩
  have hz4 := hb4.size
  go_wp2_with fail
  go_ret
  exact ⟨rfl, (hb0.trans (hb3'.mono (by omega))).trans (hb4.mono (by omega))⟩
end Go.Proofs.YtpdoacfiiledcaaGreatDoor.Spl
