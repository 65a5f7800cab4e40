import Derived.Test.YtpdoacfiiledcaaGreatDoorV06
import Derived.Test.YtpdoacfiiledcaaGreatDoorV07
import Derived.Lib.AppendIntMem
import Derived.Lib.ItoaLen
import Derived.Deep.AppendLies
import Derived.Deep.RegionLaw

namespace Go.Proofs.YtpdoacfiiledcaaGreatDoor.Spl
open Go.RowKit Go.Proofs.YtpdoacfiiledcaaGreatDoor Go.Proofs.YtpdoacfiiledcaaGreatDoor.SiftM
set_option linter.unusedVariables false

/-- The table of powers, whatever is done from block B on. -/
def Tab (B : Nat) (w : World) : Prop := Lib.TabBelow Tryz.prog B w "internal/strconv.uint64pow10" .u64 Lib.pow10Tab
/-- The mark of a number. -/
def tx (m : Nat) : ByteArray := ⟨([40] ++ Lib.itoa m ++ [41]).toArray⟩
theorem tab_on {B : Nat} {w w1 : World} (h : Tab B w) (hb : Below B w w1) : Tab B w1 := Lib.TabBelow.on h hb
theorem tab_drew {B : Nat} {w : World} (h : Tab B w) : Tab B w.drew := tab_on h ⟨rfl, rfl, rfl, Nat.le_refl _, fun _ _ => rfl⟩
theorem below_grow (B : Nat) (w : World) (k : Nat) (os : Array Obj) (hB : B ≤ w.heap.size) : Below B w (Sort.grow (w.drewN k) os) :=
  ⟨rfl, rfl, rfl, by show w.heap.size ≤ (w.heap ++ os).size; simp, fun j hj => by
    show (w.heap ++ os)[j]? = w.heap[j]?
    rw [Array.getElem?_append_left (by omega)]⟩

set_option maxHeartbeats 400000 in
theorem text_any (B m : Nat) (w : World) (hm : m ≤ 9223372036854775807) (hT : Tab B w) :
    Calls Tryz.prog 186 #[.int .i64 m] w fun e w' => e = .returned (.string (tx m)) ∧ Below w.heap.size w w' := by
  have hlen := Lib.itoa_length_le (m : Int) (by omega) (by omega)
  go_enter Tryz.func186, Tryz.ntmps186
  go_wp2_with fail
  refine (Tryz.strconv_Itoa (m : Int) (by omega) (by omega) _ hT.here).mono ?_
  rintro e w1 ⟨rfl, k, os, rfl⟩
  have hq : ¬ 9223372036854775807 < 1 + (Lib.itoa (m : Int)).length := by omega
  go_wp2_with fail
  go_ret
  refine ⟨ret_str ?_, below_grow _ _ _ _ (Nat.le_refl _)⟩
  unfold tx
  show ByteArray.mk ([40] : List UInt8).toArray ++ ByteArray.mk (Lib.itoa (m : Int)).toArray ++ ByteArray.mk ([41] : List UInt8).toArray = _
  rw [Go.ByteArray.mk_append_mk, Go.ByteArray.mk_append_mk]

/-- A list of k entries, each the mark m. -/
def Mk (w : World) (u : Value) (k m : Nat) : Prop :=
  ∃ a cap, u = .slice a k cap ∧ (0 < k → ∃ g, a = some ⟨g, 0, none⟩ ∧ (∃ cs fz, w.heap[g]? = some (.cells cs 9 fz)) ∧ ∀ j, j < k → w.cell? ⟨g, j, none⟩ = some (.string (tx m)))

theorem mk_later {w w' : World} {u : Value} {k m : Nat} (h : Mk w u k m) (hb : Below w.heap.size w w') : Mk w' u k m := by
  obtain ⟨a, cap, hu, hc⟩ := h
  refine ⟨a, cap, hu, fun hk => ?_⟩
  obtain ⟨g, hg, ⟨cs, fz, hh⟩, hcell⟩ := hc hk
  have hlt : g < w.heap.size := by
    rcases Nat.lt_or_ge g w.heap.size with h' | h'
    · exact h'
    · rw [Array.getElem?_eq_none h'] at hh; simp at hh
  exact ⟨g, hg, ⟨cs, fz, by rw [hb.block g hlt]; exact hh⟩, fun j hj => by rw [hb.cell (p := ⟨g, j, none⟩) hlt]; exact hcell j hj⟩

set_option maxHeartbeats 400000 in
theorem allS_zero (a : Option Addr) (cap m : Nat) (w : World) :
    Calls Tryz.prog 120 #[.slice a 0 cap, .int .i64 m] w fun e w' => e = .returned (.bool true) ∧ Below w.heap.size w w' := by
  go_enter Tryz.func120, Tryz.ntmps120
  go_wp2_with fail
  refine wp_loop_rounds 1 ?_
  rw [rounds_succ]
  go_wp2_with fail
  go_ret
  exact ⟨rfl, Below.refl _ _⟩

set_option maxHeartbeats 1000000 in
set_option maxRecDepth 100000 in
theorem allS_some (B g n cap m : Nat) (w : World) (hm : m ≤ 9223372036854775807) (hT : Tab B w) (hB : B ≤ w.heap.size) (hn : n ≤ 1000) (hg : g < w.heap.size) (hc : ∀ j, j < n → w.cell? ⟨g, j, none⟩ = some (.string (tx m))) :
    Calls Tryz.prog 120 #[.slice (some ⟨g, 0, none⟩) n cap, .int .i64 m] w fun e w' => e = .returned (.bool true) ∧ Below w.heap.size w w' := by
  replace hc := hide hc
  go_enter Tryz.func120, Tryz.ntmps120
  go_wp2_with fail
  go_loopw [5] (fun i wr => ∃ k : Nat, k ≤ n ∧ i = .int .i64 k ∧ Below w.heap.size w wr) (fun i _ => n - (intOf i).toNat)
  case atStart => exact ⟨0, Nat.zero_le _, rfl, Below.refl _ _⟩
  case round =>
    obtain ⟨k, hk, rfl, hb⟩ := hrel
    have hbz := hb.size
    by_cases hlt : k < n
    · have h1 : wr.cell? ⟨g, k, none⟩ = some (.string (tx m)) := by rw [hb.cell (p := ⟨g, k, none⟩) hg]; exact hc.out k hlt
      have h3 : (k : Int) < (n : Int) := by omega
      have h4 : (0 : Int) ≤ (k : Int) := by omega
      have hT1 := hide (tab_on hT (hb.mono hB))
      go_wp2_with fail
      go_region_held3 (fun w2 => w2.cell? ⟨g, k, none⟩ = some (.string (tx m))) (first | (rw [hb1.cell (by simp; omega)]; assumption) | go_keep)
        ((go_at_call 186; refine (text_any B m _ hm (tab_drew hT1.out)).mono ?_; rintro e w1 ⟨rfl, hb1⟩))
      go_wp2_with fail
      exact ⟨⟨k + 1, by omega, by go_num, hb.trans (((Below.refl _ _).drew).trans (hb1.mono (by show w.heap.size ≤ wr.heap.size; omega)))⟩, by simp [intOf]; omega⟩
    · go_wp2_with fail
      go_ret
      exact ⟨rfl, hb⟩

theorem allS_any (B k m : Nat) (u : Value) (w : World) (hm : m ≤ 9223372036854775807) (hT : Tab B w) (hB : B ≤ w.heap.size) (hk : k ≤ 1000) (h : Mk w u k m) :
    Calls Tryz.prog 120 #[u, .int .i64 m] w fun e w' => e = .returned (.bool true) ∧ Below w.heap.size w w' := by
  obtain ⟨a, cap, rfl, hc⟩ := h
  by_cases h0 : k = 0
  · subst h0; exact allS_zero a cap m w
  · obtain ⟨g, rfl, ⟨cs, fz, hh⟩, hcell⟩ := hc (by omega)
    have hlt : g < w.heap.size := by
      rcases Nat.lt_or_ge g w.heap.size with h' | h'
      · exact h'
      · rw [Array.getElem?_eq_none h'] at hh; simp at hh
    exact allS_some B g k cap m w hm hT hB hk hlt hcell

/-- What is kept of a list that came out. -/
structure Kept (w : World) (l o t h : Value) (n m : Nat) : Prop where
  a : Mk w l n m
  b : Mk w o (n + 1) m
  c : Mk w t (n + 2) m
  d : Mk w h (n + 3) m
  hn : n ≤ 900
theorem kept_later {w w' : World} {l o t h : Value} {n m : Nat} (k : Kept w l o t h n m) (hb : Below w.heap.size w w') : Kept w' l o t h n m :=
  ⟨mk_later k.a hb, mk_later k.b hb, mk_later k.c hb, mk_later k.d hb, k.hn⟩

theorem box5 {w w1 : World} {cs : Array Value} {t : TypeId} {j : Nat} {x : Value} (hj : cs[j]? = some x) (hb : Below (w.heap.size + 1) (w.alloc (.cells cs t)) w1) : w1.cell? ⟨w.heap.size, j, none⟩ = some x := by
  rw [hb.cell (by show w.heap.size < _; omega), World.cell?_alloc_at _ _ _ _ rfl]; exact hj

set_option maxHeartbeats 1000000 in
set_option maxRecDepth 100000 in
theorem still_any (B n m : Nat) (l o t h : Value) (w : World) (hm : m ≤ 9223372036854775807) (hT : Tab B w) (hB : B ≤ w.heap.size) (hk : Kept w l o t h n m) :
    Calls Tryz.prog 49 #[.agg #[l, o, t, h, .int .i64 m]] w fun e w' => e = .returned (.bool true) ∧ Below w.heap.size w w' := by
  have hn := hk.hn
  have hb0 : Below w.heap.size w (w.alloc (.cells #[l, o, t, h, .int .i64 m] 111)) := (Below.refl _ _).alloc (Nat.le_refl _) _
  have hk0 := hide (kept_later hk hb0)
  have hT0 := hide (tab_on hT (hb0.mono hB))
  replace hT := hide hT
  go_enter Tryz.func49, Tryz.ntmps49
  go_wp2_with fail
  refine (allS_any B n m l _ hm hT0.out (by simp; omega) (by omega) hk0.out.a).mono ?_
  rintro e w1 ⟨rfl, hb1⟩
  rw [World.size_alloc] at hb1
  have hz1 : w.heap.size + 1 ≤ w1.heap.size := by simpa using hb1.size
  have c1 := box5 (j := 1) rfl hb1
  have c4 := box5 (j := 4) rfl hb1
  have hk1 := hide (kept_later hk0.out (hb1.mono (by simp)))
  have hT1 := hide (tab_on hT0.out (hb1.mono (by omega)))
  go_wp2_with fail
  refine (allS_any B (n + 1) m o _ hm hT1.out (by omega) (by omega) hk1.out.b).mono ?_
  rintro e w2 ⟨rfl, hb2⟩
  have hz2 := hb2.size
  have hb2' := hb1.trans (hb2.mono hz1)
  have d2 := box5 (j := 2) rfl hb2'
  have d4 := box5 (j := 4) rfl hb2'
  have hk2 := hide (kept_later hk1.out hb2)
  have hT2 := hide (tab_on hT1.out (hb2.mono (by omega)))
  clear c1 c4 hb2
  go_wp2_with fail
  refine (allS_any B (n + 2) m t _ hm hT2.out (by omega) (by omega) hk2.out.c).mono ?_
  rintro e w3 ⟨rfl, hb3⟩
  have hz3 := hb3.size
  have hb3' := hb2'.trans (hb3.mono (by omega))
  have e3 := box5 (j := 3) rfl hb3'
  have e4 := box5 (j := 4) rfl hb3'
  have hk3 := hide (kept_later hk2.out hb3)
  have hT3 := hide (tab_on hT2.out (hb3.mono (by omega)))
  clear d2 d4 hb3
  go_wp2_with fail
  refine (allS_any B (n + 3) m h _ hm hT3.out (by omega) (by omega) hk3.out.d).mono ?_
  rintro e w4 ⟨rfl, hb4⟩
  have hz4 := hb4.size
  go_wp2_with fail
  go_ret
  exact ⟨rfl, (hb0.trans (hb3'.mono (by omega))).trans (hb4.mono (by omega))⟩
end Go.Proofs.YtpdoacfiiledcaaGreatDoor.Spl

namespace Go.Proofs.YtpdoacfiiledcaaGreatDoor.Spl
open Go.RowKit Go.Proofs.YtpdoacfiiledcaaGreatDoor Go.Proofs.YtpdoacfiiledcaaGreatDoor.SiftM
set_option linter.unusedVariables false

def rep (k m : Nat) : List Value := List.replicate k (.string (tx m))
theorem rep_len (k m : Nat) : (rep k m).length = k := by simp [rep]
theorem rep_add (a b m : Nat) : rep a m ++ rep b m = rep (a + b) m := by simp [rep]
theorem rep_get (k m j : Nat) (h : j < k) : (rep k m)[j]? = some (.string (tx m)) := by simp [rep, h]

theorem mk_of_owns {w : World} {base k m : Nat} {v : Value} (h : w.ownsRow base 9 1 v k (rep k m)) : Mk w v k m := by
  rcases h.2 with ⟨rfl, rfl⟩ | ⟨g, cap, cur, rfl, hb, hh, hn, hcap, hsz, ht⟩
  · exact ⟨_, _, rfl, fun h => by omega⟩
  · refine ⟨_, _, rfl, fun _ => ⟨g, rfl, ⟨cur, _, hh⟩, fun j hj => ?_⟩⟩
    rw [h.cellAt j (by omega), rep_get k m j hj]

/-- What an append of marks leaves. -/
structure Marked (w w' : World) (base n m k : Nat) (v v' : Value) : Prop where
  new : w'.ownsRow base 9 1 v' (n + k) (rep (n + k) m)
  old : w'.ownsRow base 9 1 v n (rep n m)
  keep : ∀ u q, q ≤ n + k → Mk w u q m → Mk w' u q m
  grown : w.grownBy w' v.ownBlock

theorem owns_base {w : World} {base base' : Nat} {e : TypeId} {size : Nat} {v : Value} {n : Nat} {xs : List Value} (h : w.ownsRow base e size v n xs) (hb : base' ≤ base) : w.ownsRow base' e size v n xs :=
  ⟨h.1, h.2.imp id fun ⟨g, cap, cur, h1, h2, h3⟩ => ⟨g, cap, cur, h1, by omega, h3⟩⟩
theorem mk_none {w w' : World} {u : Value} {q m : Nat} (hg : w.grownBy w' none) (h : Mk w u q m) : Mk w' u q m :=
  mk_later h ⟨hg.os, hg.tape, hg.output, hg.size, fun k hk => hg.block k hk (by simp)⟩

theorem run_mark (w : World) (ty base n m k : Nat) (v : Value) (hown : w.ownsRow base 9 1 v n (rep n m)) (ad : Addr) (c : Nat) (hc : ∀ j u, (rep k m)[j]? = some u → w.cell? (ad.add j) = some u)
    (hk : 0 < k) (hb : n + k ≤ 2000) (hbase : base ≤ w.heap.size) :
    ∃ v' w', (Builtin.append_ #[67, 67] ty #[v, .slice (some ad) k c]).run Tryz.prog w = .ok v' w' ∧ Marked w w' base n m k v v' := by
  obtain ⟨i0, hi, hz0, hz1, hz2⟩ := info_parts Tryz.info9
  have h1c : ∀ u ∈ rep k m, u.oneCell' = true := fun u hu => by
    have := List.eq_of_mem_replicate hu
    rw [this]; rfl
  have hlen : (rep k m).length = k * 1 := by rw [rep_len]; omega
  have hown0 := hown
  rcases hown.2 with ⟨rfl, rfl⟩ | ⟨g, cap, cur, rfl, hgb, hh, hn, hcap, hsz, ht⟩
  · obtain ⟨v', w', hrun, r1, r2, _⟩ := run_append_own (P := Tryz.prog) w base 67 ty 9 i0 (.string ⟨#[]⟩) 1 16 Tryz.underlying67 hi hz0 hz1 hz2 rfl (by decide) (.slice none 0 0) 0 [] (World.ownsRow_nil w _ 9 1) ad k c (rep k m) hlen hc h1c (by unfold maxLen; omega) (by omega) hbase
    refine ⟨v', w', hrun, ?_, World.ownsRow_nil _ _ _ _, fun u q _ hu => mk_none r2 hu, r2⟩
    simpa using r1
  · by_cases hfit : n + k ≤ cap
    · obtain ⟨w', hrun, r1, r2⟩ := run_append_fits (P := Tryz.prog) w base 67 ty 9 i0 1 Tryz.underlying67 hi hz1 g n cap (rep n m) hown0 ad k c (rep k m) hlen hc h1c hfit
      rw [rep_add] at r1
      refine ⟨_, w', hrun, r1, ?_, fun u q hq hu => ?_, r2⟩
      · rcases r1.2 with ⟨h', _⟩ | ⟨g', cap', cur', h', hb', hh', hn', hc', hs', ht'⟩
        · cases h'
        · cases h'
          refine ⟨by rw [rep_len]; omega, .inr ⟨g, cap, cur', rfl, hb', hh', by omega, hc', hs', ?_⟩⟩
          have := congrArg (List.take n) ht'
          rw [List.take_take, Nat.min_eq_left (by omega)] at this
          rw [Nat.mul_one, this]
          simp [rep]
      · obtain ⟨a, cap2, rfl, hcu⟩ := hu
        refine ⟨a, cap2, rfl, fun hq0 => ?_⟩
        obtain ⟨gu, rfl, ⟨cs, fz, hhu⟩, hcell⟩ := hcu hq0
        by_cases e : gu = g
        · subst e
          rcases r1.2 with ⟨h', _⟩ | ⟨g', cap', cur', h', hb', hh', _⟩
          · cases h'
          · cases h'
            refine ⟨gu, rfl, ⟨cur', _, hh'⟩, fun j hj => ?_⟩
            rw [r1.cellAt j (by omega), rep_get _ _ _ (by omega)]
        · have hlt : gu < w.heap.size := by
            rcases Nat.lt_or_ge gu w.heap.size with h' | h'
            · exact h'
            · rw [Array.getElem?_eq_none h'] at hhu; simp at hhu
          have hblk := r2.block gu hlt (by simp; exact e)
          exact ⟨gu, rfl, ⟨cs, fz, by rw [hblk]; exact hhu⟩, fun j hj => by rw [World.cell?_of_block (w := w) (a := ⟨gu, j, none⟩) hblk]; exact hcell j hj⟩
    · obtain ⟨v', w', hrun, r1, r2⟩ := run_append_arg_grows (P := Tryz.prog) w 67 ty 9 i0 (.string ⟨#[]⟩) 1 16 Tryz.underlying67 hi hz0 hz1 hz2 rfl (by decide) ⟨g, 0, none⟩ n cap (rep n m) (by rw [rep_len]; omega) (fun j u hj => by
          have hjn : j < n := by
            rcases Nat.lt_or_ge j n with h' | h'
            · exact h'
            · rw [List.getElem?_eq_none (by rw [rep_len]; omega)] at hj; simp at hj
          rw [show (⟨g, 0, none⟩ : Addr).add j = ⟨g, j, none⟩ by unfold Addr.add; split <;> simp_all]
          rw [hown0.cellAt j (by omega)]; exact hj) ad k c (rep k m) hlen hc (by omega) (by unfold maxLen; omega) (by omega)
      rw [rep_add] at r1
      exact ⟨v', w', hrun, owns_base r1 hbase, hown0.kept r2 (Classical.em _), fun u q _ hu => mk_none r2 hu, ⟨r2.os, r2.tape, r2.output, r2.size, fun j hj _ => r2.block j hj (by simp)⟩⟩

theorem wpList_mark (w : World) {ops : Array Oper} {rest : List Oper} {o : Oper} {a : Act} {Q : Exit → Act → World → Prop}
    (hg : o.guard = none) (s x : Operand) (hop : o.op = Op.call { callee := Callee.builtin Builtin.append, args := #[s, x], argTypes := #[67, 67] })
    (base n m k : Nat) (v : Value) (hs : a.eval s = v) (hown : w.ownsRow base 9 1 v n (rep n m)) (ad : Addr) (c : Nat) (hx : a.eval x = .slice (some ad) k c) (hc : ∀ j u, (rep k m)[j]? = some u → w.cell? (ad.add j) = some u)
    (hk : 0 < k) (hb : n + k ≤ 2000) (hbase : base ≤ w.heap.size)
    (h : ∀ g cap w', Marked w w' base n m k v (.slice (some ⟨g, 0, none⟩) (n + k) cap) → wpList Tryz.prog ops Q rest (a.put o.dst (.slice (some ⟨g, 0, none⟩) (n + k) cap)) w') :
    wpList Tryz.prog ops Q (o :: rest) a w := by
  refine wpList_plain hg fun K hK' => ?_
  obtain ⟨v', w', hrun, r⟩ := run_mark w o.type base n m k v hown ad c hc hk hb hbase
  unfold Oper.wp
  simp [execOp, hop, resolve, invoke, builtin, hs, hx, hrun, Result.andThen]
  obtain ⟨a', cap', hv', hsome⟩ := owns_forms r.new
  obtain ⟨g, rfl⟩ := hsome (by omega)
  subst hv'
  exact hK' _ _ (h g cap' w' r)
end Go.Proofs.YtpdoacfiiledcaaGreatDoor.Spl

namespace Go.Proofs.YtpdoacfiiledcaaGreatDoor.Spl
open Go.RowKit Go.Proofs.YtpdoacfiiledcaaGreatDoor Go.Proofs.YtpdoacfiiledcaaGreatDoor.SiftM
set_option linter.unusedVariables false

def zero59 : Array Value := #[.slice none 0 0, .slice none 0 0, .slice none 0 0, .slice none 0 0, .int .i64 0]

/-- A list over whose first entries the mark is written. -/
theorem mark_set (n m j : Nat) (ws : List Value) (hw : ws.length = n) (hj : j < n) : (rep j m ++ ws.drop j).set j (.string (tx m)) = rep (j + 1) m ++ ws.drop (j + 1) := by
  rw [List.set_append_right _ _ (by rw [rep_len]; omega), rep_len, Nat.sub_self]
  have h1 : ws.drop j = ws[j] :: ws.drop (j + 1) := List.drop_eq_getElem_cons (by omega)
  rw [h1, List.set_cons_zero, ← rep_add]
  simp [rep]

theorem owned_ne {w : World} {base R n : Nat} {v : Value} {xs : List Value} (h : w.ownsRow base 9 1 v n xs) {cs : Array Value} (hR : w.heap[R]? = some (.cells cs 111 (0, 0))) : some R ≠ v.ownBlock := by
  intro e
  rcases h.2 with ⟨rfl, _⟩ | ⟨g, cap, cur, rfl, _, hh, _⟩
  · simp [Value.ownBlock] at e
  · simp [Value.ownBlock] at e
    subst e
    rw [hR] at hh
    simp at hh

/-- The result's own block, behind an append of marks. -/
theorem res_on {W w2 : World} {base n m k R : Nat} {v v' : Value} {o : Obj} {cs : Array Value} (M : Marked (W.alloc o) w2 base n m k v v') (hown : W.ownsRow base 9 1 v n (rep n m)) (hR : W.heap[R]? = some (.cells cs 111 (0, 0))) : w2.heap[R]? = some (.cells cs 111 (0, 0)) := by
  have hlt : R < W.heap.size := by
    rcases Nat.lt_or_ge R W.heap.size with h' | h'
    · exact h'
    · rw [Array.getElem?_eq_none h'] at hR; simp at hR
  rw [M.grown.block R (by simp; omega) (owned_ne hown hR), Below.heap_alloc _ _ _ hlt]
  exact hR

theorem own_block {W w2 w3 w4 : World} {base n m R : Nat} {v o t h : Value} {o1 o2 o3 : Obj} (hR : W.heap[R]? = some (.cells zero59 111 (0, 0)))
    (M1 : Marked (W.alloc o1) w2 base n m 1 v o) (M2 : Marked (w2.alloc o2) w3 base n m 2 v t) (M3 : Marked (w3.alloc o3) w4 base n m 3 v h) (hown : W.ownsRow base 9 1 v n (rep n m)) :
    w4.heap[R]? = some (.cells zero59 111 (0, 0)) :=
  res_on M3 M2.old (res_on M2 M1.old (res_on M1 hown hR))
theorem cells59 {w : World} {R : Nat} (h : w.heap[R]? = some (.cells zero59 111 (0, 0))) :
    w.cell? ⟨R, 0, none⟩ = some (.slice none 0 0) ∧ w.cell? ⟨R, 1, none⟩ = some (.slice none 0 0) ∧ w.cell? ⟨R, 2, none⟩ = some (.slice none 0 0) ∧ w.cell? ⟨R, 3, none⟩ = some (.slice none 0 0) ∧ w.cell? ⟨R, 4, none⟩ = some (.int .i64 0) ∧
    w.frozen? ⟨R, 0, none⟩ = false ∧ w.frozen? ⟨R, 1, none⟩ = false ∧ w.frozen? ⟨R, 2, none⟩ = false ∧ w.frozen? ⟨R, 3, none⟩ = false ∧ w.frozen? ⟨R, 4, none⟩ = false := by
  simp [World.cell?, World.frozen?, h, zero59]

theorem mk_set {w : World} {R j : Nat} {x : Value} {cs : Array Value} {u : Value} {k m : Nat} (hR : w.heap[R]? = some (.cells cs 111 (0, 0))) (h : Mk w u k m) : Mk (w.setCell ⟨R, j, none⟩ x) u k m := by
  obtain ⟨a, cap, rfl, hc⟩ := h
  refine ⟨a, cap, rfl, fun hk => ?_⟩
  obtain ⟨g, rfl, ⟨c9, fz, hh⟩, hcell⟩ := hc hk
  have hne : g ≠ R := by
    intro e; subst e; rw [hR] at hh; simp at hh
  refine ⟨g, rfl, ⟨c9, fz, by rw [Below.heap_setCell _ _ _ _ hne]; exact hh⟩, fun i hi => ?_⟩
  rw [World.cell?_setCell_other _ _ _ _ (fun e => hne (congrArg Addr.block e).symm)]
  exact hcell i hi
theorem kept_set {w : World} {R j : Nat} {x : Value} {cs : Array Value} {l o t h : Value} {n m : Nat} (hR : w.heap[R]? = some (.cells cs 111 (0, 0))) (k : Kept w l o t h n m) : Kept (w.setCell ⟨R, j, none⟩ x) l o t h n m :=
  ⟨mk_set hR k.a, mk_set hR k.b, mk_set hR k.c, mk_set hR k.d, k.hn⟩
theorem res_set {w : World} {R j : Nat} {x : Value} {cs : Array Value} (hR : w.heap[R]? = some (.cells cs 111 (0, 0))) : (w.setCell ⟨R, j, none⟩ x).heap[R]? = some (.cells (cs.setIfInBounds j x) 111 (0, 0)) := heap_setCell_same w R j cs 111 x hR

/-- What the three appends and the store of the result leave. -/
theorem own_end {w W w2 w3 w4 : World} {base n m R : Nat} {v o t h : Value} {o1 o2 o3 : Obj} (hn : n ≤ 900) (hR : W.heap[R]? = some (.cells zero59 111 (0, 0))) (hb : Below base w W) (hbase : base ≤ W.heap.size) (hRb : base ≤ R)
    (M1 : Marked (W.alloc o1) w2 base n m 1 v o) (M2 : Marked (w2.alloc o2) w3 base n m 2 v t) (M3 : Marked (w3.alloc o3) w4 base n m 3 v h) (hown : W.ownsRow base 9 1 v n (rep n m)) (x0 x1 x2 x3 x4 : Value) :
    Kept (((((w4.setCell ⟨R, 0, none⟩ x0).setCell ⟨R, 1, none⟩ x1).setCell ⟨R, 2, none⟩ x2).setCell ⟨R, 3, none⟩ x3).setCell ⟨R, 4, none⟩ x4) v o t h n m ∧
    Below base w (((((w4.setCell ⟨R, 0, none⟩ x0).setCell ⟨R, 1, none⟩ x1).setCell ⟨R, 2, none⟩ x2).setCell ⟨R, 3, none⟩ x3).setCell ⟨R, 4, none⟩ x4) := by
  have hR4 := own_block hR M1 M2 M3 hown
  have al : ∀ (X : World) (ob : Obj), Below X.heap.size X (X.alloc ob) := fun X ob => (Below.refl _ _).alloc (Nat.le_refl _) ob
  have hk : Kept w4 v o t h n m := by
    refine ⟨mk_of_owns M3.old, ?_, ?_, mk_of_owns M3.new, hn⟩
    · exact M3.keep _ _ (by omega) (mk_later (M2.keep _ _ (by omega) (mk_later (mk_of_owns M1.new) (al _ _))) (al _ _))
    · exact M3.keep _ _ (by omega) (mk_later (mk_of_owns M2.new) (al _ _))
  have hz2 := M1.grown.size
  have hz3 := M2.grown.size
  simp at hz2 hz3
  have b1 : Below base w w2 := (hb.alloc hbase _).grown M1.grown (by simp; omega) (fun k hk => (hown.lt k hk).1)
  have b2 : Below base w w3 := (b1.alloc (by omega) _).grown M2.grown (by simp; omega) (fun k hk => (M1.old.lt k hk).1)
  have b3 : Below base w w4 := (b2.alloc (by omega) _).grown M3.grown (by simp; omega) (fun k hk => (M2.old.lt k hk).1)
  exact ⟨kept_set (res_set (res_set (res_set (res_set hR4)))) (kept_set (res_set (res_set (res_set hR4))) (kept_set (res_set (res_set hR4)) (kept_set (res_set hR4) (kept_set hR4 hk)))),
    ((((b3.setCell (p := ⟨R, 0, none⟩) hRb x0).setCell (p := ⟨R, 1, none⟩) hRb x1).setCell (p := ⟨R, 2, none⟩) hRb x2).setCell (p := ⟨R, 3, none⟩) hRb x3).setCell (p := ⟨R, 4, none⟩) hRb x4⟩

set_option maxHeartbeats 1000000 in
set_option maxRecDepth 100000 in
theorem own_zero (B base m : Nat) (a : Option Addr) (cap : Nat) (w : World) (hm : m ≤ 9223372036854775807) (hT : Tab B w) (hB : B ≤ base) (hbase : base ≤ w.heap.size) (hown0 : w.ownsRow base 9 1 (.slice a 0 cap) 0 (rep 0 m)) :
    Calls Tryz.prog 172 #[.slice a 0 cap, .int .i64 m] w fun e w' => ∃ o t h, e = .returned (.agg #[.slice a 0 cap, o, t, h, .int .i64 m]) ∧ Kept w' (.slice a 0 cap) o t h 0 m ∧ Below base w w' := by
  have hT0 := hide (tab_on hT (((Below.refl B w).alloc (by omega) (.cells zero59 111))))
  replace hT := hide hT
  go_enter Tryz.func172, Tryz.ntmps172
  go_wp2_with fail
  refine (text_any B m _ hm hT0.out).mono ?_
  rintro e w1 ⟨rfl, hb1⟩
  rw [World.size_alloc] at hb1
  have hz1 : w.heap.size + 1 ≤ w1.heap.size := by simpa using hb1.size
  have hb0 : Below w.heap.size w w1 := ((Below.refl _ _).alloc (Nat.le_refl _) _).trans (hb1.mono (by omega))
  have hR : w1.heap[w.heap.size]? = some (.cells zero59 111 (0, 0)) := by rw [hb1.block w.heap.size (by omega)]; exact heap_alloc_new w _
  have hown := owns_below hown0 hb0
  clear hb1 hT0 hT hown0
  replace hR := hide hR
  go_wp2_with fail
  refine wp_loop_rounds 1 ?_
  rw [rounds_succ]
  go_wp2_with (first
    | (at_builtin; refine wpList_mark _ rfl _ _ rfl base 0 m 1 _ rfl (hown.alloc _) ⟨w1.heap.size, 0, none⟩ 1 rfl (World.news_of_block (cs := #[.string (tx m)]) (t := 9) (fr := (0, 0)) (heap_alloc_new _ _)) (by omega) (by omega) (by simp; omega) ?_; intro go co w2 M1)
    | (at_builtin; refine wpList_mark _ rfl _ _ rfl base 0 m 2 _ rfl (M1.old.alloc _) ⟨w2.heap.size, 0, none⟩ 2 rfl (World.news_of_block (cs := #[.string (tx m), .string (tx m)]) (t := 9) (fr := (0, 0)) (heap_alloc_new _ _)) (by omega) (by omega) (by have := M1.grown.size; simp at this ⊢; omega) ?_; intro gt ct w3 M2)
    | (at_builtin; refine wpList_mark _ rfl _ _ rfl base 0 m 3 _ rfl (M2.old.alloc _) ⟨w3.heap.size, 0, none⟩ 3 rfl (World.news_of_block (cs := #[.string (tx m), .string (tx m), .string (tx m)]) (t := 9) (fr := (0, 0)) (heap_alloc_new _ _)) (by omega) (by omega) (by have := M1.grown.size; have := M2.grown.size; simp at *; omega) ?_; intro gh ch w4 M3; obtain ⟨r0, r1, r2, r3, r4, f0, f1, f2, f3, f4⟩ := cells59 (own_block hR.out M1 M2 M3 hown))
    | fail)
  have hE := own_end (R := w.heap.size) (by omega) hR.out (hb0.mono hbase) (by omega) hbase M1 M2 M3 hown (.slice a 0 cap) (.slice (some ⟨go, 0, none⟩) 1 co) (.slice (some ⟨gt, 0, none⟩) 2 ct) (.slice (some ⟨gh, 0, none⟩) 3 ch) (.int .i64 m)
  refine bodyPost_ret (v := .agg #[.slice a 0 cap, .slice (some ⟨go, 0, none⟩) 1 co, .slice (some ⟨gt, 0, none⟩) 2 ct, .slice (some ⟨gh, 0, none⟩) 3 ch, .int .i64 m]) (by simp [results, Tryz.results172, go_sem, r0, r1, r2, r3, r4]) rfl ⟨_, _, _, rfl, hE.1, hE.2⟩
end Go.Proofs.YtpdoacfiiledcaaGreatDoor.Spl

namespace Go.Proofs.YtpdoacfiiledcaaGreatDoor.Spl
open Go.RowKit Go.Proofs.YtpdoacfiiledcaaGreatDoor Go.Proofs.YtpdoacfiiledcaaGreatDoor.SiftM
set_option linter.unusedVariables false

set_option maxHeartbeats 1000000 in
set_option maxRecDepth 100000 in
theorem own_some (B base n m g cap : Nat) (ws : List Value) (w : World) (hm : m ≤ 9223372036854775807) (hT : Tab B w) (hB : B ≤ base) (hbase : base ≤ w.heap.size) (hn : n ≤ 900) (hws : ws.length = n) (hown0 : w.ownsRow base 9 1 (.slice (some ⟨g, 0, none⟩) n cap) n ws) :
    Calls Tryz.prog 172 #[.slice (some ⟨g, 0, none⟩) n cap, .int .i64 m] w fun e w' => ∃ o t h, e = .returned (.agg #[.slice (some ⟨g, 0, none⟩) n cap, o, t, h, .int .i64 m]) ∧ Kept w' (.slice (some ⟨g, 0, none⟩) n cap) o t h n m ∧ Below base w w' := by
  have hT0 := hide (tab_on hT (((Below.refl B w).alloc (by omega) (.cells zero59 111))))
  replace hT := hide hT
  have hg := hown0.lt g rfl
  have hg1 := hg.1
  have hg2 := hg.2
  clear hg
  replace hws := hide hws
  go_enter Tryz.func172, Tryz.ntmps172
  go_wp2_with fail
  refine (text_any B m _ hm hT0.out).mono ?_
  rintro e w1 ⟨rfl, hb1⟩
  rw [World.size_alloc] at hb1
  have hz1 : w.heap.size + 1 ≤ w1.heap.size := by simpa using hb1.size
  have hb0 : Below w.heap.size w w1 := ((Below.refl _ _).alloc (Nat.le_refl _) _).trans (hb1.mono (by omega))
  have hR : w1.heap[w.heap.size]? = some (.cells zero59 111 (0, 0)) := by rw [hb1.block w.heap.size (by omega)]; exact heap_alloc_new w _
  have hown1 := owns_below hown0 hb0
  clear hb1 hT0 hT hown0
  replace hR := hide hR
  go_wp2_with fail
  go_loopw [6] (fun i wr => ∃ j : Nat, j ≤ n ∧ i = .int .i64 j ∧ wr.ownsRow base 9 1 (.slice (some ⟨g, 0, none⟩) n cap) n (rep j m ++ ws.drop j) ∧ Hid (wr.heap[w.heap.size]? = some (.cells zero59 111 (0, 0))) ∧ Below base w wr ∧ w.heap.size + 1 ≤ wr.heap.size) (fun i _ => n - (intOf i).toNat)
  case atStart => exact ⟨0, Nat.zero_le _, rfl, hown1, hR, hb0.mono hbase, hz1⟩
  case round =>
    clear hown1 hR hb0 hz1
    obtain ⟨j, hj, rfl, hown, hR, hb, hz⟩ := hrel
    by_cases hlt : j < n
    · have h1 : (j : Int) < (n : Int) := by omega
      have h0 : (0 : Int) ≤ (j : Int) := by omega
      have hcell : ∃ x, wr.cell? ⟨g, j, none⟩ = some x := by
        have hl : (rep j m ++ ws.drop j).length = n := by rw [List.length_append, rep_len, List.length_drop, hws.out]; omega
        exact ⟨_, by rw [hown.cellAt j (by omega), List.getElem?_eq_getElem (by omega)]⟩
      obtain ⟨x, hx⟩ := hcell
      have hfz : wr.frozen? ⟨g, j, none⟩ = false := hown.frozenAt j
      have hst := hide (hown.stored j (.string (tx m))).1
      have hmk := hide (mark_set n m j ws hws.out hlt)
      replace hown := hide hown
      go_wp2_with fail
      go_roundw
      case rel =>
        refine ⟨j + 1, by omega, by go_num, ?_, ?_, hb.setCell (p := ⟨g, j, none⟩) hg1 _, by simpa using hz⟩
        · have := hst.out; rw [hmk.out] at this; exact this
        · show _ = _
          rw [Below.heap_setCell _ _ _ _ (show w.heap.size ≠ g by omega)]; exact hR.out
      case measure => simp [intOf]; omega
    · have hjn : n = j := by omega
      subst hjn
      rw [List.drop_of_length_le (by rw [hws.out]; exact Nat.le_refl _), List.append_nil] at hown
      go_wp2_with (first
        | (at_builtin; refine wpList_mark _ rfl _ _ rfl base n m 1 _ rfl (hown.alloc _) ⟨wr.heap.size, 0, none⟩ 1 rfl (World.news_of_block (cs := #[.string (tx m)]) (t := 9) (fr := (0, 0)) (heap_alloc_new _ _)) (by omega) (by omega) (by simp; omega) ?_; intro go co w2 M1)
        | (at_builtin; refine wpList_mark _ rfl _ _ rfl base n m 2 _ rfl (M1.old.alloc _) ⟨w2.heap.size, 0, none⟩ 2 rfl (World.news_of_block (cs := #[.string (tx m), .string (tx m)]) (t := 9) (fr := (0, 0)) (heap_alloc_new _ _)) (by omega) (by omega) (by have := M1.grown.size; simp at this ⊢; omega) ?_; intro gt ct w3 M2)
        | (at_builtin; refine wpList_mark _ rfl _ _ rfl base n m 3 _ rfl (M2.old.alloc _) ⟨w3.heap.size, 0, none⟩ 3 rfl (World.news_of_block (cs := #[.string (tx m), .string (tx m), .string (tx m)]) (t := 9) (fr := (0, 0)) (heap_alloc_new _ _)) (by omega) (by omega) (by have := M1.grown.size; have := M2.grown.size; simp at *; omega) ?_; intro gh ch w4 M3; obtain ⟨r0, r1, r2, r3, r4, f0, f1, f2, f3, f4⟩ := cells59 (own_block hR.out M1 M2 M3 hown))
        | fail)
      have hE := own_end (R := w.heap.size) (by omega) hR.out hb (by omega) hbase M1 M2 M3 hown (.slice (some ⟨g, 0, none⟩) n cap) (.slice (some ⟨go, 0, none⟩) (n + 1) co) (.slice (some ⟨gt, 0, none⟩) (n + 2) ct) (.slice (some ⟨gh, 0, none⟩) (n + 3) ch) (.int .i64 m)
      refine bodyPost_ret (v := .agg #[.slice (some ⟨g, 0, none⟩) n cap, .slice (some ⟨go, 0, none⟩) (n + 1) co, .slice (some ⟨gt, 0, none⟩) (n + 2) ct, .slice (some ⟨gh, 0, none⟩) (n + 3) ch, .int .i64 m]) (by simp [results, Tryz.results172, go_sem, r0, r1, r2, r3, r4]) rfl ⟨_, _, _, rfl, hE.1, hE.2⟩

theorem own_any (B base n m : Nat) (v : Value) (ws : List Value) (w : World) (hm : m ≤ 9223372036854775807) (hT : Tab B w) (hB : B ≤ base) (hbase : base ≤ w.heap.size) (hn : n ≤ 900) (hown : w.ownsRow base 9 1 v n ws) :
    Calls Tryz.prog 172 #[v, .int .i64 m] w fun e w' => ∃ o t h, e = .returned (.agg #[v, o, t, h, .int .i64 m]) ∧ Kept w' v o t h n m ∧ Below base w w' := by
  obtain ⟨a, cap, rfl, hsome⟩ := owns_forms hown
  have hl : ws.length = n := by have := hown.1; omega
  by_cases h0 : n = 0
  · subst h0
    have hw : ws = [] := List.length_eq_zero_iff.1 hl
    subst hw
    exact own_zero B base m a cap w hm hT hB hbase hown
  · obtain ⟨g, rfl⟩ := hsome (by omega)
    exact own_some B base n m g cap ws w hm hT hB hbase hn hl hown
end Go.Proofs.YtpdoacfiiledcaaGreatDoor.Spl

namespace Go.Proofs.YtpdoacfiiledcaaGreatDoor.Spl
open Go.RowKit Go.Proofs.YtpdoacfiiledcaaGreatDoor Go.Proofs.YtpdoacfiiledcaaGreatDoor.SiftM
set_option linter.unusedVariables false

theorem Tryz.info111 : (Tryz.prog.info? 111).map (fun i => (i.zero, i.size, i.bytes)) = some (some (.agg #[.slice none 0 0, .slice none 0 0, .slice none 0 0, .slice none 0 0, .int .i64 0]), 5, 104) := by kernel_rfl

/-- One list that came out: it, and the three begun at it. -/
structure One where
  l : Value
  o : Value
  t : Value
  h : Value
  n : Nat
def oneV (x : One) (i : Nat) : List Value := [x.l, x.o, x.t, x.h, .int .i64 (i : Int)]
def rowF : Nat → List One → List Value
  | _, [] => []
  | i, x :: t => oneV x i ++ rowF (i + 1) t
theorem rowF_append : ∀ (F G : List One) (i : Nat), rowF i (F ++ G) = rowF i F ++ rowF (i + F.length) G
  | [], _, _ => rfl
  | x :: t, G, i => by simp only [List.cons_append, rowF, rowF_append t G (i + 1), List.append_assoc, List.length_cons]; rw [show i + 1 + t.length = i + (t.length + 1) by omega]
theorem rowF_len : ∀ (F : List One) (i : Nat), (rowF i F).length = F.length * 5
  | [], _ => rfl
  | x :: t, i => by simp only [rowF, List.length_append, rowF_len t (i + 1), List.length_cons]; simp [oneV]; omega
/-- The fields of entry i. -/
theorem rowF_get : ∀ (F : List One) (i b : Nat) (x : One), F[i]? = some x → ∀ j, j < 5 → (rowF b F)[i * 5 + j]? = (oneV x (b + i))[j]?
  | [], i, b, x, h, j, hj => by simp at h
  | y :: t, 0, b, x, h, j, hj => by
    simp at h; subst h
    simp only [rowF]
    rw [List.getElem?_append_left (by simp [oneV]; omega)]
    simp
  | y :: t, i + 1, b, x, h, j, hj => by
    simp only [rowF]
    rw [List.getElem?_append_right (by simp [oneV]; omega)]
    have := rowF_get t i (b + 1) x (by simpa using h) j hj
    rw [show (i + 1) * 5 + j - (oneV y b).length = i * 5 + j by simp [oneV]; omega, this, show b + 1 + i = b + (i + 1) by omega]
def rowV (F : List One) : List Value := rowF 0 F
theorem rowV_snoc (F : List One) (x : One) : rowV (F ++ [x]) = rowV F ++ oneV x F.length := by
  unfold rowV; rw [rowF_append]; simp [rowF]

/-- The lists that came out, at block P. -/
structure Inv (w : World) (P : Nat) (F : List One) (v : Value) : Prop where
  hP : w.heap[P]? = some (.cells #[.slice none 0 0, .slice none 0 0, v, .slice none 0 0, .slice none 0 0, .slice none 0 0] 64 (0, 0))
  own : w.ownsRow (P + 1) 111 5 v F.length (rowV F)
  kept : ∀ i x, F[i]? = some x → Kept w x.l x.o x.t x.h x.n i

theorem heap_lt {w : World} {g : Nat} {o : Obj} (h : w.heap[g]? = some o) : g < w.heap.size := by
  rcases Nat.lt_or_ge g w.heap.size with h' | h'
  · exact h'
  · rw [Array.getElem?_eq_none h'] at h; simp at h
theorem inv_later {w w' : World} {P : Nat} {F : List One} {v : Value} (h : Inv w P F v) (hb : Below w.heap.size w w') : Inv w' P F v :=
  ⟨by rw [hb.block P (heap_lt h.hP)]; exact h.hP, owns_below h.own hb, fun i x hx => kept_later (h.kept i x hx) hb⟩

/-- A list of marks is not touched by what is done to a block of another kind. -/
theorem mk_far {w w' : World} {u : Value} {k m : Nat} {row : Option Nat} (hg : w.grownBy w' row) (hr : ∀ r, row = some r → ∃ cs t fz, w.heap[r]? = some (.cells cs t fz) ∧ t ≠ 9) (h : Mk w u k m) : Mk w' u k m := by
  obtain ⟨a, cap, rfl, hc⟩ := h
  refine ⟨a, cap, rfl, fun hk => ?_⟩
  obtain ⟨g, rfl, ⟨c9, fz, hh⟩, hcell⟩ := hc hk
  have hne : some g ≠ row := by
    intro e
    obtain ⟨cs, t, fz', h1, h2⟩ := hr g e.symm
    rw [hh] at h1
    simp at h1
    exact h2 h1.2.1.symm
  have hblk := hg.block g (heap_lt hh) hne
  exact ⟨g, rfl, ⟨c9, fz, by rw [hblk]; exact hh⟩, fun j hj => by rw [World.cell?_of_block (w := w) (a := ⟨g, j, none⟩) hblk]; exact hcell j hj⟩
theorem kept_far {w w' : World} {l o t h : Value} {n m : Nat} {row : Option Nat} (hg : w.grownBy w' row) (hr : ∀ r, row = some r → ∃ cs t fz, w.heap[r]? = some (.cells cs t fz) ∧ t ≠ 9) (k : Kept w l o t h n m) : Kept w' l o t h n m :=
  ⟨mk_far hg hr k.a, mk_far hg hr k.b, mk_far hg hr k.c, mk_far hg hr k.d, k.hn⟩
theorem own_kind {w : World} {base n size : Nat} {v : Value} {xs : List Value} (h : w.ownsRow base 111 size v n xs) : ∀ r, v.ownBlock = some r → ∃ cs t fz, w.heap[r]? = some (.cells cs t fz) ∧ t ≠ 9 := by
  intro r hr
  rcases h.2 with ⟨rfl, _⟩ | ⟨g, cap, cur, rfl, _, hh, _⟩
  · simp [Value.ownBlock] at hr
  · simp [Value.ownBlock] at hr
    subst hr
    exact ⟨cur, 111, _, hh, by decide⟩

/-- The lists with one more, behind the append and the store. -/
theorem inv_push {W w1 : World} {P g cap : Nat} {F : List One} {v : Value} {x : One} (hI : Inv W P F v) (hg : W.grownBy w1 v.ownBlock) (hk : Kept W x.l x.o x.t x.h x.n F.length)
    (hown : w1.ownsRow (P + 1) 111 5 (.slice (some ⟨g, 0, none⟩) (F.length + 1) cap) (F.length + 1) (rowV F ++ oneV x F.length)) :
    Inv (w1.setCell ⟨P, 2, none⟩ (.slice (some ⟨g, 0, none⟩) (F.length + 1) cap)) P (F ++ [x]) (.slice (some ⟨g, 0, none⟩) (F.length + 1) cap) := by
  have hPlt := heap_lt hI.hP
  have hPne : some P ≠ v.ownBlock := by
    intro e
    have := (hI.own.lt P e.symm).1
    omega
  have hP1 : w1.heap[P]? = some (.cells #[.slice none 0 0, .slice none 0 0, v, .slice none 0 0, .slice none 0 0, .slice none 0 0] 64 (0, 0)) := by rw [hg.block P hPlt hPne]; exact hI.hP
  have hset : w1.grownBy (w1.setCell ⟨P, 2, none⟩ (.slice (some ⟨g, 0, none⟩) (F.length + 1) cap)) (some P) :=
    ⟨rfl, rfl, rfl, by simp [World.setCell], fun k hk hn => Below.heap_setCell _ _ _ _ (fun e => hn (by rw [e]))⟩
  have hr : ∀ r, some P = some r → ∃ cs t fz, w1.heap[r]? = some (.cells cs t fz) ∧ t ≠ 9 := by
    intro r e; injection e with e; subst e; exact ⟨_, 64, _, hP1, by decide⟩
  refine ⟨?_, ?_, ?_⟩
  · rw [heap_setCell_same w1 P 2 _ 64 _ hP1]; rfl
  · rw [rowV_snoc, List.length_append]
    exact ownsRow_setCell_below hown (by simp) _
  · intro i y hy
    by_cases hi : i < F.length
    · rw [List.getElem?_append_left hi] at hy
      exact kept_far hset hr (kept_far hg (own_kind hI.own) (hI.kept i y hy))
    · rw [List.getElem?_append_right (by omega)] at hy
      have he : i = F.length := by
        rcases Nat.lt_or_ge (i - F.length) 1 with h' | h'
        · omega
        · rw [List.getElem?_eq_none (by simpa using h')] at hy; simp at hy
      subst he
      simp at hy
      subst hy
      exact kept_far hset hr (kept_far hg (own_kind hI.own) hk)
end Go.Proofs.YtpdoacfiiledcaaGreatDoor.Spl

namespace Go.Proofs.YtpdoacfiiledcaaGreatDoor.Spl
open Go.RowKit Go.Proofs.YtpdoacfiiledcaaGreatDoor Go.Proofs.YtpdoacfiiledcaaGreatDoor.SiftM
set_option linter.unusedVariables false

theorem inv_cell {w : World} {P : Nat} {F : List One} {v : Value} (h : Inv w P F v) : w.cell? ⟨P, 2, none⟩ = some v ∧ w.frozen? ⟨P, 2, none⟩ = false := by
  simp [World.cell?, World.frozen?, h.hP]

theorem far2 {w1 w2 : World} {P : Nat} {X Y : Obj} {row : Option Nat} {x : Value} (hP : P < w1.heap.size) (hne : some P ≠ row) (hg : ((w1.alloc X).alloc Y).drew.grownBy w2 row) (hc : w1.cell? ⟨P, 2, none⟩ = some x) (hf : w1.frozen? ⟨P, 2, none⟩ = false) :
    w2.cell? ⟨P, 2, none⟩ = some x ∧ w2.frozen? ⟨P, 2, none⟩ = false := by
  have hb : w2.heap[P]? = w1.heap[P]? := by
    rw [hg.block P (by show P < ((w1.alloc X).alloc Y).heap.size; simp; omega) hne]
    show ((w1.alloc X).alloc Y).heap[P]? = _
    rw [Below.heap_alloc _ _ _ (by simp; omega), Below.heap_alloc _ _ _ hP]
  exact ⟨by rw [World.cell?_of_block (w := w1) (a := ⟨P, 2, none⟩) hb]; exact hc, by rw [World.frozen?_of_block (w := w1) (a := ⟨P, 2, none⟩) hb]; exact hf⟩
theorem heap_two (w : World) (X Y : Obj) : ((w.alloc X).alloc Y).drew.heap[w.heap.size + 1]? = some Y := by
  have h := heap_alloc_new (w.alloc X) Y
  rw [World.size_alloc] at h
  exact h
theorem two_below (w : World) (X Y : Obj) : Below w.heap.size w ((w.alloc X).alloc Y).drew := (((Below.refl _ _).alloc (Nat.le_refl _) X).alloc (by simp) Y).drew

set_option maxHeartbeats 1000000 in
set_option maxRecDepth 100000 in
theorem string_any (B P base n : Nat) (F : List One) (v l : Value) (ws : List Value) (w0 w : World) (hI : Inv w0 P F v) (hb : Below w0.heap.size w0 w) (hbase : w0.heap.size ≤ base) (hbz : base ≤ w.heap.size) (hT : Tab B w) (hB : B ≤ P)
    (hF : (F.length + 1) * 104 ≤ 140737488355328) (hn : n ≤ 900) (hown : w.ownsRow base 9 1 l n ws) :
    Calls Tryz.prog 74 #[.pointer (some ⟨P, 1, none⟩), l] w fun e w' => e = .returned (.tuple #[]) ∧ (∃ x v', Inv w' P (F ++ [x]) v') ∧ Below P w w' := by
  obtain ⟨i0, hi, hz0, hz1, hz2⟩ := info_parts Tryz.info111
  obtain ⟨a, cap, hv, _⟩ : ∃ a cap, v = .slice a F.length cap ∧ True := by
    rcases hI.own.2 with ⟨rfl, h0⟩ | ⟨g, cap, cur, rfl, _⟩
    · exact ⟨none, 0, by rw [h0], trivial⟩
    · exact ⟨_, _, rfl, trivial⟩
  have hPlt := heap_lt hI.hP
  have hI1 := inv_later hI hb
  obtain ⟨hc2, hf2⟩ := inv_cell hI1
  rw [hv] at hc2
  replace hI := hide hI
  replace hI1 := hide hI1
  replace hv := hide hv
  replace hT := hide hT
  go_enter Tryz.func74, Tryz.ntmps74
  go_wp2_with fail
  refine (own_any B base n F.length l ws _ (by omega) hT.out (by omega) hbz hn hown).mono ?_
  rintro e w1 ⟨o, t, h, rfl, hk, hb1⟩
  obtain ⟨al, cl, rfl, _⟩ := id hk.a
  obtain ⟨ao, co, rfl, _⟩ := id hk.b
  obtain ⟨at', ct, rfl, _⟩ := id hk.c
  obtain ⟨ah, ch, rfl, _⟩ := id hk.d
  have hb2 : Below w0.heap.size w0 w1 := hb.trans (hb1.mono hbase)
  have hI2 := inv_later hI.out hb2
  obtain ⟨d2, e2⟩ := inv_cell hI2
  rw [hv.out] at d2
  replace hI2 := hide hI2
  replace hk := hide hk
  clear hI1 hc2 hf2
  go_wp2_with fail
  have hP1 : P < w1.heap.size := by have := hb2.size; omega
  have hownv : Hid (w1.ownsRow (P + 1) 111 5 (.slice a F.length cap) F.length (rowV F)) := by show World.ownsRow _ _ _ _ _ _ _; rw [← hv.out]; exact hI2.out.own
  have hne : some P ≠ (Value.slice a F.length cap).ownBlock := fun e => by have := (hownv.out.lt P e.symm).1; omega
  clear hown
  go_region_law ((refine step_append_lies _ (by rfl) _ _ _ (by rfl) (P + 1) 111 i0 _ 5 104 Tryz.underlying57 hi hz0 hz1 hz2 rfl (by omega) (.slice a F.length cap) F.length (rowV F) (by rfl) (((hownv.out.alloc _).alloc _).drew) ⟨w1.heap.size + 1, 0, none⟩ 1 1 [.slice al n cl, .slice ao (n + 1) co, .slice at' (n + 2) ct, .slice ah (n + 3) ch, .int .i64 (F.length : Int)] (by rfl) (by rfl) (World.news_of_block (cs := #[.slice al n cl, .slice ao (n + 1) co, .slice at' (n + 2) ct, .slice ah (n + 3) ch, .int .i64 (F.length : Int)]) (t := 111) (fr := (0, 0)) (heap_two w1 _ _)) (by simp [Value.oneCell']) (by omega) (by unfold maxLen; omega) (by omega) (by simp; omega) (w1.heap.size + 2) (by simp) ?_; intro g cap2 w2 hown2 hgrow hat hlt; obtain ⟨d3, e3⟩ := far2 hP1 hne hgrow d2 e2))
  all_goals
    go_wp2_with fail
    go_end0
    have hgrow' := hgrow
    rw [← hv.out] at hgrow'
    refine ⟨rfl, ⟨⟨.slice al n cl, .slice ao (n + 1) co, .slice at' (n + 2) ct, .slice ah (n + 3) ch, n⟩, _, inv_push (inv_later hI2.out (two_below w1 _ _)) hgrow' (kept_later hk.out (two_below w1 _ _)) hown2⟩, ?_⟩
    have hbel : Below P w w2 := ((hb1.mono (by omega)).trans ((two_below w1 _ _).mono (by omega))).grown hgrow (by show P ≤ ((w1.alloc _).alloc _).heap.size; simp; omega) (fun k hk => by have := (hownv.out.lt k hk).1; omega)
    exact hbel.setCell (p := ⟨P, 2, none⟩) (Nat.le_refl P) _
end Go.Proofs.YtpdoacfiiledcaaGreatDoor.Spl

namespace Go.Proofs.YtpdoacfiiledcaaGreatDoor.Spl
open Go.RowKit Go.Proofs.YtpdoacfiiledcaaGreatDoor Go.Proofs.YtpdoacfiiledcaaGreatDoor.SiftM
set_option linter.unusedVariables false

theorem inv_cells {w : World} {P : Nat} {F : List One} {v : Value} (h : Inv w P F v) :
    w.cell? ⟨P, 1, none⟩ = some (.slice none 0 0) ∧ w.cell? ⟨P, 3, none⟩ = some (.slice none 0 0) ∧ w.cell? ⟨P, 4, none⟩ = some (.slice none 0 0) ∧ w.cell? ⟨P, 5, none⟩ = some (.slice none 0 0) := by
  simp [World.cell?, h.hP]
theorem inv_row {w : World} {P g cap k : Nat} {F : List One} {x : One} (h : Inv w P F (.slice (some ⟨g, 0, none⟩) F.length cap)) (hk : F[k]? = some x) :
    w.cell? ⟨g, k * 5, none⟩ = some x.l ∧ w.cell? ⟨g, k * 5 + 1, none⟩ = some x.o ∧ w.cell? ⟨g, k * 5 + 2, none⟩ = some x.t ∧ w.cell? ⟨g, k * 5 + 3, none⟩ = some x.h ∧ w.cell? ⟨g, k * 5 + 4, none⟩ = some (.int .i64 (k : Int)) := by
  have hlt : k < F.length := by
    rcases Nat.lt_or_ge k F.length with h' | h'
    · exact h'
    · rw [List.getElem?_eq_none h'] at hk; simp at hk
  have key : ∀ j, j < 5 → w.cell? ⟨g, k * 5 + j, none⟩ = (oneV x (0 + k))[j]? := fun j hj => by
    rw [h.own.cellAt (k * 5 + j) (by omega)]
    exact rowF_get F k 0 x hk j hj
  have k0 := key 0 (by omega)
  have k1 := key 1 (by omega)
  have k2 := key 2 (by omega)
  have k3 := key 3 (by omega)
  have k4 := key 4 (by omega)
  rw [Nat.zero_add] at k4
  exact ⟨k0, k1, k2, k3, k4⟩

set_option maxHeartbeats 1000000 in
set_option maxRecDepth 100000 in
theorem looks_any (B P : Nat) (F : List One) (v : Value) (w : World) (hI : Inv w P F v) (hT : Tab B w) (hB : B ≤ w.heap.size) (hF : F.length ≤ 9223372036854775806) :
    Calls Tryz.prog 25 #[.pointer (some ⟨P, 1, none⟩)] w fun e w' => e = .returned (.bool true) ∧ Below w.heap.size w w' := by
  obtain ⟨c1, c3, c4, c5⟩ := inv_cells hI
  obtain ⟨a, cap, hv⟩ : ∃ a cap, v = .slice a F.length cap := by
    rcases hI.own.2 with ⟨rfl, h0⟩ | ⟨g, cap, cur, rfl, _⟩
    · exact ⟨none, 0, by rw [h0]⟩
    · exact ⟨_, _, rfl⟩
  subst hv
  replace hI := hide hI
  replace hT := hide hT
  go_enter Tryz.func25, Tryz.ntmps25
  go_wp2_with fail
  refine wp_loop_rounds 1 ?_
  rw [rounds_succ]
  go_wp2_with fail
  clear c1 c3 c4 c5
  go_loopw [3, 6] (fun o i wr => ∃ k : Nat, k ≤ F.length ∧ i = .int .i64 k ∧ o = .bool true ∧ Below w.heap.size w wr) (fun _ i _ => F.length - (intOf i).toNat)
  case atStart => exact ⟨0, Nat.zero_le _, rfl, rfl, Below.refl _ _⟩
  case round =>
    obtain ⟨k, hk, rfl, rfl, hb⟩ := hrel
    have hbz := hb.size
    have hI1 := inv_later hI.out hb
    have c2 := (inv_cell hI1).1
    by_cases hlt : k < F.length
    · obtain ⟨x, hx⟩ : ∃ x, F[k]? = some x := ⟨_, List.getElem?_eq_getElem hlt⟩
      obtain ⟨g, rfl⟩ : ∃ g, a = some ⟨g, 0, none⟩ := by
        rcases hI1.own.2 with ⟨h', h0⟩ | ⟨g, cap', cur, h', _⟩
        · omega
        · cases h'; exact ⟨g, rfl⟩
      obtain ⟨r0, r1, r2, r3, r4⟩ := inv_row hI1 hx
      have hkept := hide (hI1.kept k x hx)
      have hT1 := hide (tab_on hT.out (hb.mono hB))
      have h1 : (k : Int) < (F.length : Int) := by omega
      have h0 : (0 : Int) ≤ (k : Int) := by omega
      replace hx := hide hx
      replace hI1 := hide hI1
      go_wp2_with fail
      refine (still_any B x.n k x.l x.o x.t x.h _ (by omega) hT1.out (by omega) hkept.out).mono ?_
      rintro e w1 ⟨rfl, hb1⟩
      go_wp2_with fail
      exact ⟨⟨k + 1, by omega, by go_num, rfl, hb.trans (hb1.mono hbz)⟩, by simp [intOf]; omega⟩
    · obtain ⟨c1, c3, c4, c5⟩ := inv_cells hI1
      clear hI1
      go_wp2_with fail
      refine wp_loop_rounds 1 ?_
      rw [rounds_succ]
      go_wp2_with fail
      refine wp_loop_rounds 1 ?_
      rw [rounds_succ]
      go_wp2_with fail
      refine wp_loop_rounds 1 ?_
      rw [rounds_succ]
      go_wp2_with fail
      go_ret
      exact ⟨rfl, hb⟩
end Go.Proofs.YtpdoacfiiledcaaGreatDoor.Spl
