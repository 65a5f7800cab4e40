import Derived.Test.YtbkepgmgebmceaaGreatDoorU14
import Derived.OwnWalk
import Derived.Maps.AppendAt
import Derived.Lib.AppendStr
import Derived.Laws.Bits128
import Derived.Maps.OwnSet
import Derived.DeepKeys4

namespace Go.Proofs.YtbkepgmgebmceaaGreatDoor.Pak
open Go.RowKit Go.Proofs.YtbkepgmgebmceaaGreatDoor Go.Proofs.YtbkepgmgebmceaaGreatDoor.Spl SiftM
set_option linter.unusedVariables false

def textF (st : Option (List UInt8)) (n : Nat) : List UInt8 × Option (List UInt8) :=
  match st with
  | none => ([], none)
  | some l => if l.length < n then ([], none) else (l.take n, some (l.drop n))

theorem conv_vw (w : World) (B : Nat) (a : Option Addr) (l : List UInt8) (h : Vw w B a l) (cap : Nat) :
    (convert 109 9 (.slice a l.length cap)).run Tryz.prog w = .ok (.string ⟨l.toArray⟩) w := by
  rcases h with ⟨rfl, rfl⟩ | ⟨g, off, rfl, hg, hc⟩
  · exact run_convert_bytes_nil (P := Tryz.prog) w 109 5 Tryz.underlying109 Tryz.underlying5 0 cap 9 Tryz.underlying9
  · have hb : Lib.Bytes w g off ⟨l.toArray⟩ := by
      intro i hi
      have hi' : i < l.length := by
        have h2 : i < l.toArray.size := hi
        simpa using h2
      rw [hc i hi']
      rfl
    exact Lib.run_convert_whole (P := Tryz.prog) w 109 5 9 Tryz.underlying109 Tryz.underlying5 Tryz.underlying9 g off ⟨l.toArray⟩ hb cap

set_option maxHeartbeats 400000 in
set_option maxRecDepth 100000 in
theorem text_rd (R B : Nat) (st : Option (List UInt8)) (n : Nat) (w : World) (h : Rd w R B st) (hn : n ≤ 2000000) :
    Calls Tryz.prog 310 #[.pointer (some ⟨R, 0, none⟩), .int .i64 n] w fun e w' => e = .returned (.string ⟨(textF st n).1.toArray⟩) ∧ Rd w' R B (textF st n).2 ∧ Kp [R] w w' := by
  match st, h with
  | none, h =>
    have hB := h.1
    obtain ⟨c0, c1, f0, f1⟩ := rd_cells h.2
    have H := hide h.2
    have HH := hide h
    clear h
    show Calls _ _ _ _ fun e w' => e = .returned (.string ⟨([] : List UInt8).toArray⟩) ∧ Rd w' R B none ∧ Kp [R] w w'
    by_cases h0 : 0 < n
    · go_enter Tryz.func310, Tryz.ntmps310
      go_wp2_with fail
      refine (fail_any R B hB _ _ w H.out).mono ?_
      rintro e w1 ⟨rfl, hr1, hk1⟩
      have HR1 := hide hr1
      clear hr1
      go_wp2_with fail
      go_ret
      exact ⟨rfl, HR1.out, hk1⟩
    · have : n = 0 := by omega
      subst this
      have hcv : ∀ w', (convert 109 9 (.slice none 0 0)).run Tryz.prog w' = .ok (.string ⟨#[]⟩) w' := fun w' => run_convert_bytes_nil (P := Tryz.prog) w' 109 5 Tryz.underlying109 Tryz.underlying5 0 0 9 Tryz.underlying9
      go_enter Tryz.func310, Tryz.ntmps310
      go_wp2_with fail
      go_ret
      refine ⟨rfl, ⟨hB, ?_⟩, (Kp.refl _ _).setCell (.inl (by simp)) _⟩
      have e1 := heap_setCell_same w R 0 _ 418 (.slice none 0 0) H.out
      rw [e1]; rfl
  | some l, h =>
    obtain ⟨hB, a, cap, hb, hv, hc1, hc2⟩ := h
    obtain ⟨c0, c1, f0, f1⟩ := rd_cells hb
    have H := hide hb
    have HV := hide hv
    clear hb hv
    by_cases hlt : l.length < n
    · have e : textF (some l) n = ([], none) := by simp [textF, hlt]
      rw [e]
      clear e
      go_enter Tryz.func310, Tryz.ntmps310
      go_wp2_with fail
      refine (fail_any R B hB _ _ w H.out).mono ?_
      rintro e w1 ⟨rfl, hr1, hk1⟩
      have HR1 := hide hr1
      clear hr1
      go_wp2_with fail
      go_ret
      exact ⟨rfl, HR1.out, hk1⟩
    · have e : textF (some l) n = (l.take n, some (l.drop n)) := by simp [textF, hlt]
      rw [e]
      clear e
      have hcv : (convert 109 9 (.slice a n cap)).run Tryz.prog w = .ok (.string ⟨(l.take n).toArray⟩) w := by
        have hv' : Vw w B a (l.take n) := by
          rcases HV.out with ⟨rfl, ha⟩ | ⟨g, off, ha, hg, hc⟩
          · exact .inl ⟨by simp, ha⟩
          · exact .inr ⟨g, off, ha, hg, fun j hj => by
              have hj' : j < l.length := by simp at hj; omega
              rw [hc j hj']; simp⟩
        have := conv_vw w B a (l.take n) hv' cap
        rw [List.length_take, Nat.min_eq_left (by omega)] at this
        exact this
      obtain ⟨m, hm⟩ : ∃ m, l.length = m := ⟨_, rfl⟩
      have Hm := hide hm
      rw [hm] at c0 hc1 hlt
      clear hm
      rcases HV.out with ⟨rfl, rfl⟩ | ⟨g, off, rfl, hg, hc⟩
      · have e0 : m = 0 := by have := Hm.out; simp at this; omega
        have e1 : n = 0 := by omega
        subst e0 e1
        go_enter Tryz.func310, Tryz.ntmps310
        go_wp2_with fail
        go_ret
        refine ⟨rfl, rd_put hB H.out rfl (.inl ⟨rfl, rfl⟩) (by simp) hc2, (Kp.refl _ _).setCell (.inl (by simp)) _⟩
      · have HC := hide hc
        clear hc
        go_enter Tryz.func310, Tryz.ntmps310
        go_wp2_with fail
        · go_ret
          have hl : l.length ≤ n := by have := Hm.out; omega
          refine ⟨rfl, rd_put hB H.out (by have := Hm.out; simp; omega) (.inr ⟨g, off, rfl, hg, fun j hj => by simp at hj; omega⟩) (by simp; omega) (by omega), (Kp.refl _ _).setCell (.inl (by simp)) _⟩
        · go_ret
          refine ⟨rfl, rd_put hB H.out (by have := Hm.out; simp; omega) (.inr ⟨g, off + n, rfl, hg, fun j hj => ?_⟩) (by have := Hm.out; simp; omega) (by omega), (Kp.refl _ _).setCell (.inl (by simp)) _⟩
          have hj' : n + j < l.length := by simp at hj; omega
          have := HC.out (n + j) hj'
          rw [← Nat.add_assoc] at this
          simpa using this
end Go.Proofs.YtbkepgmgebmceaaGreatDoor.Pak

namespace Go.Proofs.YtbkepgmgebmceaaGreatDoor.Pak
open Go.RowKit Go.Proofs.YtbkepgmgebmceaaGreatDoor Go.Proofs.YtbkepgmgebmceaaGreatDoor.Spl SiftM
set_option linter.unusedVariables false

/-- Nothing has turned but the blocks of S and rows of bytes from base on. -/
structure Kb (t : TypeId) (S : List Nat) (base : Nat) (w w' : World) : Prop where
  os : w'.os = w.os
  tape : w'.tape = w.tape
  output : w'.output = w.output
  size : w.heap.size ≤ w'.heap.size
  block : ∀ k o, k ∉ S → w.heap[k]? = some o → (k < base ∨ ∀ cs fr, o ≠ .cells cs t fr) → w'.heap[k]? = some o
theorem Kb.refl (t : TypeId) (S : List Nat) (base : Nat) (w : World) : Kb t S base w w := ⟨rfl, rfl, rfl, Nat.le_refl _, fun _ _ _ h _ => h⟩
theorem Kb.trans {t : TypeId} {S S' : List Nat} {base : Nat} {a b c : World} (h : Kb t S base a b) (k : Kb t S' base b c) (hS : ∀ x ∈ S', x ∈ S ∨ a.heap.size ≤ x) : Kb t S base a c :=
  ⟨k.os.trans h.os, k.tape.trans h.tape, k.output.trans h.output, Nat.le_trans h.size k.size, fun i o hi ho hk => k.block i o (fun hx => by
    rcases hS i hx with h' | h'
    · exact hi h'
    · have := heap_lt ho; omega) (h.block i o hi ho hk) hk⟩
theorem Kb.next {t : TypeId} {S : List Nat} {base : Nat} {a b c : World} (h : Kb t S base a b) (k : Kb t S base b c) : Kb t S base a c := h.trans k fun _ hx => .inl hx
theorem Kb.mono {t : TypeId} {S S' : List Nat} {base : Nat} {w w' : World} (h : Kb t S base w w') (hS : ∀ x ∈ S, x ∈ S') : Kb t S' base w w' :=
  ⟨h.os, h.tape, h.output, h.size, fun k o hk ho hkind => h.block k o (fun hx => hk (hS k hx)) ho hkind⟩
theorem Kb.of_kp {t : TypeId} {S S' : List Nat} {base : Nat} {w w' : World} (h : Kp S w w') (hS : ∀ x ∈ S, x ∈ S' ∨ base ≤ x ∧ ∃ cs fr, w.heap[x]? = some (.cells cs t fr)) : Kb t S' base w w' :=
  ⟨h.os, h.tape, h.output, h.size, fun k o hk ho hkind => h.heap ho fun hx => by
    rcases hS k hx with e | ⟨e1, cs, fr, e2⟩
    · exact hk e
    · rcases hkind with h' | h'
      · omega
      · rw [ho] at e2; simp at e2; exact h' cs fr e2⟩
theorem Kb.alloc {t : TypeId} {S : List Nat} {base : Nat} {a w : World} (h : Kb t S base a w) (o : Obj) : Kb t S base a (w.alloc o) := h.next (Kb.of_kp (S := []) ((Kp.refl _ _).alloc _) (by simp))
theorem Kb.setW {t : TypeId} {S : List Nat} {base : Nat} {a w : World} (h : Kb t S base a w) {p : Addr} (hp : p.block ∈ S ∨ a.heap.size ≤ p.block) (u : Value) : Kb t S base a (w.setCell p u) :=
  h.trans (S' := [p.block]) (Kb.of_kp (S := [p.block]) ((Kp.refl _ _).setCell (.inl (by simp)) _) (by simp)) (by simpa using hp)
theorem Kb.grown {t : TypeId} {S : List Nat} {base : Nat} {a w w' : World} {v : Value} {n : Nat} {xs : List Value} (h : Kb t S base a w) (hown : w.ownsRow base t 1 v n xs) (hg : w.grownBy w' v.ownBlock) : Kb t S base a w' := by
  refine h.next (Kb.of_kp (S := v.ownBlock.toList) ((Kp.refl _ _).grown hg (fun k hk => .inl (by simp [hk]))) ?_)
  intro x hx
  rcases hown.2 with ⟨rfl, _⟩ | ⟨g, cap, cur, rfl, hb, hgg, rest⟩
  · simp [Value.ownBlock] at hx
  · simp [Value.ownBlock] at hx
    subst hx
    exact .inr ⟨hb, _, _, hgg⟩
theorem Kb.below {t : TypeId} {S : List Nat} {base B : Nat} {w w' : World} (h : Kb t S base w w') (hB : B ≤ w.heap.size) (hS : ∀ x ∈ S, B ≤ x) (hb : B ≤ base) : Below B w w' :=
  ⟨h.os, h.tape, h.output, h.size, fun k hk => by
    have hlt : k < w.heap.size := by omega
    have := h.block k _ (fun hx => by have := hS k hx; omega) (Array.getElem?_eq_getElem hlt) (.inl (by omega))
    rw [this, Array.getElem?_eq_getElem hlt]⟩
theorem Kb.heap {t : TypeId} {S : List Nat} {base k : Nat} {w w' : World} {cs : Array Value} {t' : TypeId} {fr : Nat × Nat} (h : Kb t S base w w') (hk : k ∉ S) (ho : w.heap[k]? = some (.cells cs t' fr)) (ht : t' ≠ t) : w'.heap[k]? = some (.cells cs t' fr) :=
  h.block k _ hk ho (.inr (fun cs fr e => by simp at e; exact ht e.2.1))
theorem Kb.owns {t : TypeId} {S : List Nat} {base base' : Nat} {w w' : World} {e : TypeId} {size : Nat} {v : Value} {n : Nat} {xs : List Value} (k : Kb t S base w w') (h : w.ownsRow base' e size v n xs) (he : e ≠ t) (hne : ∀ x ∈ S, v.ownBlock ≠ some x) : w'.ownsRow base' e size v n xs := by
  refine ⟨h.1, ?_⟩
  rcases h.2 with hn | ⟨g, cap, cur, rfl, hb, hgg, rest⟩
  · exact .inl hn
  · exact .inr ⟨g, cap, cur, rfl, hb, k.heap (fun hx => hne g hx rfl) hgg he, rest⟩

def byV (l : List UInt8) : List Value := l.map fun (c : UInt8) => Value.int .u8 (c.toNat : Int)
theorem byV_length (l : List UInt8) : (byV l).length = l.length := by simp [byV]
theorem byV_append (a b : List UInt8) : byV (a ++ b) = byV a ++ byV b := by simp [byV]
theorem byV_str (s : ByteArray) : Lib.strCells s = byV s.data.toList := rfl
theorem info5 : (Tryz.prog.info? 5).map (fun i => (i.zero, i.size, i.bytes)) = some (some (.int .u8 0), 1, 1) := by kernel_rfl

/-- The writer in block W: what it has written. -/
def Wr (w : World) (W base : Nat) (l : List UInt8) : Prop := ∃ v, w.heap[W]? = some (.cells #[v] 340 (0, 0)) ∧ w.ownsRow base 5 1 v l.length (byV l)
theorem wr_cell {w : World} {W : Nat} {v : Value} (h : w.heap[W]? = some (.cells #[v] 340 (0, 0))) : w.cell? ⟨W, 0, none⟩ = some v ∧ w.frozen? ⟨W, 0, none⟩ = false := by
  simp [World.cell?, World.frozen?, h]
theorem wr_slice {w : World} {W base : Nat} {l : List UInt8} (h : Wr w W base l) : ∃ a cap, w.heap[W]? = some (.cells #[.slice a l.length cap] 340 (0, 0)) ∧ w.ownsRow base 5 1 (.slice a l.length cap) l.length (byV l) := by
  obtain ⟨v, h1, h2⟩ := h
  obtain ⟨a, cap, rfl, _⟩ := owns_forms h2
  exact ⟨a, cap, h1, h2⟩
theorem wr_put {w w' : World} {W base : Nat} {l : List UInt8} {v v' : Value} (h : w.heap[W]? = some (.cells #[v] 340 (0, 0))) (hown : w.ownsRow base 5 1 v' l.length (byV l)) : Wr (w.setCell ⟨W, 0, none⟩ v') W base l := by
  refine ⟨v', ?_, ?_⟩
  · have e := heap_setCell_same w W 0 _ 340 v' h
    rw [e]; rfl
  · exact ((Kp.refl [W] w).setCell (p := ⟨W, 0, none⟩) (.inl (by simp)) v').owns hown (fun g hg => by
      have := owns_ne hown h (by decide)
      rw [hg] at this; simpa using this)

set_option maxHeartbeats 400000 in
theorem wtext_any (W base : Nat) (l : List UInt8) (s : ByteArray) (w : World) (h : Wr w W base l) (hb : base ≤ w.heap.size) (hl : l.length + s.size ≤ 2000000) :
    Calls Tryz.prog 238 #[.pointer (some ⟨W, 0, none⟩), .string s] w fun e w' => e = .returned (.tuple #[]) ∧ Wr w' W base (l ++ s.data.toList) ∧ Kb 5 [W] base w w' := by
  obtain ⟨i0, hi, hz0, hz1, hz2⟩ := info_parts info5
  obtain ⟨a, cap, h1, hown⟩ := wr_slice h
  obtain ⟨c0, f0⟩ := wr_cell h1
  have H1 := hide h1
  have hne := owns_ne hown h1 (by decide)
  clear h h1
  go_enter Tryz.func238, Tryz.ntmps238
  go_wp2_with (first
    | (at_builtin; refine Lib.wpList_append_own_string _ rfl _ _ 109 9 rfl base 5 i0 Tryz.underlying109 Tryz.underlying9 hi hz0 hz1 hz2 _ _ _ rfl hown s rfl ?c1 ?c2 hb ?_)
    | fail)
  case c1 => unfold maxLen; omega
  case c2 => omega
  intro v' w2 hown2 hgrow _
  have h2 : w2.heap[W]? = some (.cells #[.slice a l.length cap] 340 (0, 0)) := by
    rw [hgrow.block W (heap_lt H1.out) (fun e => hne e.symm)]; exact H1.out
  obtain ⟨c2, f2⟩ := wr_cell h2
  have H2 := hide h2
  obtain ⟨a', cap', rfl, _⟩ := owns_forms hown2
  clear h2
  go_wp2_with fail
  go_end0
  refine ⟨rfl, wr_put (w' := w2) H2.out ?_, ((Kb.refl 5 [W] base w).grown hown hgrow).setW (.inl (by simp)) _⟩
  rw [byV_append, List.length_append]
  exact hown2
end Go.Proofs.YtbkepgmgebmceaaGreatDoor.Pak

namespace Go.Proofs.YtbkepgmgebmceaaGreatDoor.Pak
open Go.RowKit Go.Proofs.YtbkepgmgebmceaaGreatDoor Go.Proofs.YtbkepgmgebmceaaGreatDoor.Spl SiftM Go.Maps
set_option linter.unusedVariables false

theorem laidOut : laidOutB Tryz.prog = true := by kernel_rfl
theorem row95 : (367 : TypeId) < Tryz.prog.types.size := of_decide_eq_true (by kernel_rfl)
theorem deep95 : Tryz.prog.keyTypeAt 2 367 = true := by kernel_rfl
theorem wide95 : (match Tryz.prog.underlying 367 with | some (.array _ _) | some (.struct _) => true | _ => false) = true := by kernel_rfl
set_option maxRecDepth 100000 in
theorem spotK : Keyed Tryz.prog 367 := Keyed.of_law (deep_law_laid laidOut (m := 2) (by omega) row95 deep95 wide95)
def key (d p : Nat) : Lit := .string (keyBytes [.int .i64 (d : Int), .int .i64 (p : Int)])
theorem keyT95 : Tryz.prog.keyType 367 = true := by kernel_rfl
theorem types_size : ∃ m, Tryz.prog.types.size + 1 = m + 2 := ⟨Tryz.prog.types.size - 1, by have h : 367 < Tryz.prog.types.size := row95; omega⟩
theorem cells95 : Tryz.prog.cellsOf 367 = 2 := by kernel_rfl
theorem cells3 : Tryz.prog.cellsOf 3 = 1 := by kernel_rfl
theorem wf64 (n : Nat) (h : n ≤ 1099511627776) : (Lit.int .i64 (n : Int)).wf = true := WalkArith.wf_i64 (by omega)

theorem lits_spot (m d p : Nat) (hd : d ≤ 1099511627776) (hp : p ≤ 1099511627776) : Tryz.prog.keyLits (m + 2) 367 [.int .i64 (d : Int), .int .i64 (p : Int)] = some [.int .i64 (d : Int), .int .i64 (p : Int)] := by
  unfold Program.keyLits
  simp only [Tryz.underlying367]
  rw [if_pos ⟨by rw [cells95]; rfl, by simp⟩]
  simp [cells3, Program.keyLits, Tryz.underlying3, wf64 d hd, wf64 p hp]
theorem keyOf_spot (d p : Nat) (hd : d ≤ 1099511627776) (hp : p ≤ 1099511627776) : keyOf Tryz.prog 367 (.agg #[.int .i64 (d : Int), .int .i64 (p : Int)]) = some (key d p) := by
  obtain ⟨m, hm⟩ := types_size
  unfold keyOf
  simp only [Tryz.underlying367]
  rw [if_pos (by simp [keyT95, Value.formed, Tryz.underlying367, cells95]), hm]
  have := lits_spot m d p hd hp
  simp only [Value.cells]
  rw [this]
  rfl
theorem key_inj {d p d' p' : Nat} (hd : d ≤ 1099511627776) (hp : p ≤ 1099511627776) (hd' : d' ≤ 1099511627776) (hp' : p' ≤ 1099511627776) (h : key d p = key d' p') : d = d' ∧ p = p' := by
  have e : keyBytes [.int .i64 (d : Int), .int .i64 (p : Int)] = keyBytes [.int .i64 (d' : Int), .int .i64 (p' : Int)] := by
    have := h; unfold key at this; simpa using this
  have h2 := keyLits_inj (lits_spot 0 d p hd hp) (lits_spot 0 d' p' hd' hp') e
  simp at h2
  omega

/-- Block M is a map of c entries that says f. -/
def MapIs (w : World) (M c : Nat) (f : Nat → Nat → Option Nat) : Prop :=
  ∃ D : DataW Unit, w.ownsMap Tryz.prog 367 (plainElem Tryz.prog 3) M c D ∧ Maps.size D = c ∧
    (∀ d p, d ≤ 1099511627776 → p ≤ 1099511627776 → Maps.has D (key d p) = (f d p).isSome) ∧
    ∀ d p, d ≤ 1099511627776 → p ≤ 1099511627776 → ∀ v, f d p = some v → D.atKey (key d p) (.lit (.int .i64 0)) = .lit (.int .i64 (v : Int))
theorem MapIs.lt {w : World} {M c : Nat} {f : Nat → Nat → Option Nat} (h : MapIs w M c f) : M < w.heap.size := by
  obtain ⟨D, h1, _⟩ := h; exact h1.lt
theorem MapIs.block {w : World} {M c : Nat} {f : Nat → Nat → Option Nat} (h : MapIs w M c f) : ∃ es clock, w.heap[M]? = some (.map es clock) := by
  obtain ⟨D, ⟨es, clock, h1, _⟩, _⟩ := h; exact ⟨es, clock, h1⟩
theorem MapIs.kp {S : List Nat} {w w' : World} {M c : Nat} {f : Nat → Nat → Option Nat} (h : MapIs w M c f) (k : Kp S w w') (hM : M ∉ S) : MapIs w' M c f := by
  obtain ⟨D, ⟨es, clock, h1, h2⟩, h3⟩ := h
  exact ⟨D, ⟨es, clock, k.heap h1 hM, h2⟩, h3⟩
theorem MapIs.kb {t : TypeId} {S : List Nat} {base : Nat} {w w' : World} {M c : Nat} {f : Nat → Nat → Option Nat} (h : MapIs w M c f) (k : Kb t S base w w') (hM : M ∉ S) : MapIs w' M c f := by
  obtain ⟨D, ⟨es, clock, h1, h2⟩, h3⟩ := h
  exact ⟨D, ⟨es, clock, k.block M _ hM h1 (.inr (fun cs fr e => by simp at e)), h2⟩, h3⟩
theorem mapIs_made (w : World) : MapIs (w.alloc (.map #[] 0)) w.heap.size 0 fun _ _ => none := by
  refine ⟨.map [], World.ownsMap_made _ _ _ _, rfl, fun d p _ _ => rfl, fun d p _ _ v hv => by simp at hv⟩

def putAt (f : Nat → Nat → Option Nat) (d p v : Nat) : Nat → Nat → Option Nat := fun d' p' => if d' = d ∧ p' = p then some v else f d' p'

theorem keylit (d p : Nat) : WideAt.IsKeyLit (key d p) := trivial
theorem zero3 (w : World) : (zeroValue 3).run Tryz.prog w = .ok (.int .i64 0) w := by kernel_rfl

theorem owns_size {w : World} {M n : Nat} {D : DataW Unit} (h : w.ownsMap Tryz.prog 367 (plainElem Tryz.prog 3) M n D) : w.ownsMap Tryz.prog 367 (plainElem Tryz.prog 3) M (Maps.size D) D := by
  obtain ⟨es, clock, h1, h2, h3, rfl⟩ := h
  exact ⟨es, clock, h1, h2, by simp [Maps.size, length_sorted], rfl⟩

theorem MapIs.look {w : World} {M c : Nat} {f : Nat → Nat → Option Nat} (h : MapIs w M c f) (d p : Nat) (hd : d ≤ 1099511627776) (hp : p ≤ 1099511627776) :
    ∃ x : Int, (Instr.lookup 288 (.map (some M)) (.agg #[.int .i64 (d : Int), .int .i64 (p : Int)]) true).run Tryz.prog w = .ok (.tuple #[.int .i64 x, .bool (f d p).isSome]) w ∧ ∀ v, f d p = some v → x = (v : Int) := by
  obtain ⟨D, hown, hsz, hhas, hat⟩ := h
  obtain ⟨v, ps, hrun, hv⟩ := hown.look_ok spotK Tryz.underlying288 (zero3 w) (plainElem_int Tryz.underlying3 (by decide)) (keyOf_spot d p hd hp)
  obtain ⟨x, rfl, hx, _⟩ := plainElem_int_inv Tryz.underlying3 hv
  rw [hhas d p hd hp] at hrun
  refine ⟨x, hrun, fun v hv => ?_⟩
  have h2 := hat d p hd hp v hv
  simp only [Prod.mk.injEq] at hx
  rw [h2] at hx
  simpa using hx.1.symm

theorem MapIs.store {w : World} {M c : Nat} {f : Nat → Nat → Option Nat} (h : MapIs w M c f) (hc : c ≤ 1000000000) (d p v : Nat) (hd : d ≤ 1099511627776) (hp : p ≤ 1099511627776) (hv : v ≤ 1099511627776) :
    ∃ w', (Instr.mapUpdate 288 (.map (some M)) (.agg #[.int .i64 (d : Int), .int .i64 (p : Int)]) (.int .i64 (v : Int))).run Tryz.prog w = .ok () w' ∧ MapIs w' M (if (f d p).isSome then c else c + 1) (putAt f d p v) ∧ Kp [M] w w' := by
  obtain ⟨D, hown, hsz, hhas, hat⟩ := h
  obtain ⟨w', hrun, h1, h2⟩ := hown.update spotK Tryz.underlying288 (by unfold maxLen; omega) (keyOf_spot d p hd hp) (plainElem_int Tryz.underlying3 (wf64 v hv))
  refine ⟨w', hrun, ⟨D.put (key d p) (.lit (.int .i64 (v : Int))), ?_, ?_, ?_, ?_⟩, (Kp.refl [M] w).grown h2 (fun k hk => by simp at hk; left; simp [hk])⟩
  · have := owns_size h1
    rw [Maps.size_put (hown.tidy spotK), hhas d p hd hp, hsz] at this
    exact this
  · rw [Maps.size_put (hown.tidy spotK), hhas d p hd hp, hsz]
  · intro d' p' hd' hp'
    unfold putAt
    by_cases e : d' = d ∧ p' = p
    · obtain ⟨rfl, rfl⟩ := e
      rw [Maps.has_put_same hown.isMap (keylit _ _)]
      simp
    · rw [Maps.has_put_other (fun h => e (key_inj hd' hp' hd hp h)), hhas d' p' hd' hp', if_neg e]
  · intro d' p' hd' hp' x hx
    unfold putAt at hx
    by_cases e : d' = d ∧ p' = p
    · obtain ⟨rfl, rfl⟩ := e
      rw [if_pos ⟨rfl, rfl⟩] at hx
      simp at hx
      subst hx
      exact Maps.atKey_put_same hown.isMap (keylit _ _) _ _
    · rw [if_neg e] at hx
      rw [Maps.atKey_put_other (fun h => e (key_inj hd' hp' hd hp h))]
      exact hat d' p' hd' hp' x hx
theorem MapIs.len {w : World} {M c : Nat} {f : Nat → Nat → Option Nat} (h : MapIs w M c f) (ty : TypeId) : (Builtin.len_ #[288] ty #[.map (some M)]).run Tryz.prog w = .ok (.int .i64 (c : Int)) w := by
  obtain ⟨D, hown, hsz, hhas, hat⟩ := h
  rw [hown.len Tryz.underlying288 ty, hsz]
end Go.Proofs.YtbkepgmgebmceaaGreatDoor.Pak
