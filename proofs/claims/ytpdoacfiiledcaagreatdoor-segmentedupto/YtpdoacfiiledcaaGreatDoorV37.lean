import Derived.Test.YtpdoacfiiledcaaGreatDoorV00
import Derived.Test.YtpdoacfiiledcaaGreatDoorV01
import Derived.Test.YtpdoacfiiledcaaGreatDoorV27
import Derived.Laws.OwnMore
import Derived.ArgAppend
import Derived.Deep.RegionLaw
import Derived.Deep.AppendLies
import Derived.Shelf.LaysM
import Derived.Shelf.Strconv.Itoa3
import Derived.Test.YtpdoacfiiledcaaGreatDoorProg
import Derived.Lib.AppendIntMem
import Derived.Lib.ItoaLen
namespace Go.Proofs.YtpdoacfiiledcaaGreatDoor.Own
open Go.RowKit Go.Proofs.YtpdoacfiiledcaaGreatDoor Go.Proofs.YtpdoacfiiledcaaGreatDoor.Spl
set_option linter.unusedVariables false

/-- k entries, each of the cells c. -/
def repG (c : List Value) : Nat → List Value
  | 0 => []
  | k + 1 => c ++ repG c k
theorem repG_len (c : List Value) : ∀ k, (repG c k).length = k * c.length
  | 0 => by simp [repG]
  | k + 1 => by rw [repG, List.length_append, repG_len c k, Nat.succ_mul, Nat.add_comm]
theorem repG_add (c : List Value) : ∀ a b, repG c a ++ repG c b = repG c (a + b)
  | 0, b => by simp [repG]
  | a + 1, b => by rw [repG, List.append_assoc, repG_add c a b, show a + 1 + b = (a + b) + 1 by omega, repG]
theorem repG_mem (c : List Value) : ∀ k, ∀ u ∈ repG c k, u ∈ c
  | 0, u, h => by simp [repG] at h
  | k + 1, u, h => by
    rw [repG] at h
    rcases List.mem_append.1 h with h | h
    · exact h
    · exact repG_mem c k u h
theorem repG_pre (c : List Value) (q p j : Nat) (h : q ≤ p) (hj : j < q * c.length) : (repG c p)[j]? = (repG c q)[j]? := by
  rw [show p = q + (p - q) by omega, ← repG_add, List.getElem?_append_left (by rw [repG_len]; exact hj)]
theorem repG_at (c : List Value) : ∀ (k i f : Nat), i < k → f < c.length → (repG c k)[i * c.length + f]? = c[f]?
  | 0, i, f, h, _ => by omega
  | k + 1, 0, f, _, hf => by rw [repG, Nat.zero_mul, Nat.zero_add, List.getElem?_append_left hf]
  | k + 1, i + 1, f, h, hf => by
    rw [repG, List.getElem?_append_right (by rw [Nat.succ_mul]; omega), show (i + 1) * c.length + f - c.length = i * c.length + f by rw [Nat.succ_mul]; omega]
    exact repG_at c k i f (by omega) hf
theorem repG_take (c : List Value) (n k : Nat) (h : n ≤ k) : (repG c k).take (n * c.length) = repG c n := by
  rw [show k = n + (k - n) by omega, ← repG_add, ← repG_len c n, List.take_left]

/-- What is asked of a kind of lists. -/
structure Fam (st e : TypeId) (size bytes : Nat) (i0 : TypeInfo) (z : Value) : Prop where
  und : Tryz.prog.underlying st = some (.slice e)
  info : Tryz.prog.info? e = some i0
  zero : i0.zero = some z
  sz : i0.size = size
  by_ : i0.bytes = bytes
  zs : z.cells.size = size
  pos : 0 < size

/-- A list all of whose entries are the mark c. -/
def MkG (e : TypeId) (w : World) (u : Value) (k : Nat) (c : List Value) : Prop :=
  ∃ a cap, u = .slice a k cap ∧ (0 < k → ∃ g, a = some ⟨g, 0, none⟩ ∧ (∃ cs fz, w.heap[g]? = some (.cells cs e fz)) ∧ ∀ j, j < k * c.length → w.cell? ⟨g, j, none⟩ = (repG c k)[j]?)

theorem lt_of_heap {w : World} {g : Nat} {o : Obj} (h : w.heap[g]? = some o) : g < w.heap.size := (Array.getElem?_eq_some_iff.1 h).1

/-- A list of marks is not touched by what is done to other blocks. -/
theorem MkG.blocks {e : TypeId} {w w' : World} {u : Value} {k : Nat} {c : List Value} (h : MkG e w u k c) (hb : ∀ g cs fz, u.ownBlock = some g → w.heap[g]? = some (.cells cs e fz) → w'.heap[g]? = w.heap[g]?) : MkG e w' u k c := by
  obtain ⟨a, cap, rfl, hc⟩ := h
  refine ⟨a, cap, rfl, fun hk => ?_⟩
  obtain ⟨g, rfl, ⟨cs, fz, hh⟩, hcell⟩ := hc hk
  have hblk := hb g cs fz rfl hh
  exact ⟨g, rfl, ⟨cs, fz, by rw [hblk]; exact hh⟩, fun j hj => by rw [World.cell?_of_block (w := w) (a := ⟨g, j, none⟩) hblk]; exact hcell j hj⟩
theorem MkG.later {e : TypeId} {w w' : World} {u : Value} {k : Nat} {c : List Value} (h : MkG e w u k c) (hb : Below w.heap.size w w') : MkG e w' u k c :=
  h.blocks fun g cs fz _ hh => hb.block g (lt_of_heap hh)
theorem MkG.none {e : TypeId} {w w' : World} {u : Value} {k : Nat} {c : List Value} (h : MkG e w u k c) (hg : w.grownBy w' none) : MkG e w' u k c :=
  h.blocks fun g cs fz _ hh => hg.block g (lt_of_heap hh) (by simp)
theorem MkG.far {e : TypeId} {w w' : World} {u : Value} {k : Nat} {c : List Value} {row : Option Nat} (h : MkG e w u k c) (hg : w.grownBy w' row) (hr : ∀ r, row = some r → ∃ cs t fz, w.heap[r]? = some (.cells cs t fz) ∧ t ≠ e) : MkG e w' u k c :=
  h.blocks fun g cs fz _ hh => hg.block g (lt_of_heap hh) (fun er => by
    obtain ⟨cs', t, fz', h1, h2⟩ := hr g er.symm
    rw [hh] at h1
    simp at h1
    exact h2 h1.2.1.symm)
theorem MkG.of_owns {e : TypeId} {w : World} {base k : Nat} {v : Value} {c : List Value} (h : w.ownsRow base e c.length v k (repG c k)) : MkG e w v k c := by
  rcases h.2 with ⟨rfl, rfl⟩ | ⟨g, cap, cur, rfl, hb, hh, hn, hcap, hsz, ht⟩
  · exact ⟨_, _, rfl, fun h => by omega⟩
  · exact ⟨_, _, rfl, fun _ => ⟨g, rfl, ⟨cur, _, hh⟩, fun j hj => h.cellAt j hj⟩⟩

theorem owns_to {w : World} {base base' : Nat} {e : TypeId} {size : Nat} {v : Value} {n : Nat} {xs : List Value} (h : w.ownsRow base e size v n xs) (hb : base' ≤ base) : w.ownsRow base' e size v n xs :=
  ⟨h.1, h.2.imp id fun ⟨g, cap, cur, h1, h2, h3⟩ => ⟨g, cap, cur, h1, by omega, h3⟩⟩

/-- What an append of marks leaves. -/
structure MarkedG (e : TypeId) (w w' : World) (base n k : Nat) (c : List Value) (v v' : Value) : Prop where
  new : w'.ownsRow base e c.length v' (n + k) (repG c (n + k))
  old : w'.ownsRow base e c.length v n (repG c n)
  keep : ∀ u q, q ≤ n + k → MkG e w u q c → MkG e w' u q c
  grown : w.grownBy w' v.ownBlock
  loc : ∀ g, v'.ownBlock = some g → v.ownBlock = some g ∨ w.heap.size ≤ g

theorem run_markG {st e : TypeId} {size bytes : Nat} {i0 : TypeInfo} {z : Value} (hF : Fam st e size bytes i0 z) (w : World) (ty base n k : Nat) (c : List Value) (hc0 : c.length = size) (h1 : ∀ u ∈ c, u.oneCell' = true) (v : Value) (hown : w.ownsRow base e c.length v n (repG c n)) (ad : Addr) (cc : Nat) (hc : ∀ j u, (repG c k)[j]? = some u → w.cell? (ad.add j) = some u)
    (hk : 0 < k) (hb : n + k ≤ 9223372036854775807) (hby : (n + k) * bytes ≤ 140737488355328) (hbase : base ≤ w.heap.size) :
    ∃ v' w', (Builtin.append_ #[st, st] ty #[v, .slice (some ad) k cc]).run Tryz.prog w = .ok v' w' ∧ MarkedG e w w' base n k c v v' := by
  have h1c : ∀ u ∈ repG c k, u.oneCell' = true := fun u hu => h1 u (repG_mem c k u hu)
  have hsz1 : i0.size = c.length := by rw [hc0]; exact hF.sz
  have hzs : z.cells.size = c.length := by rw [hc0]; exact hF.zs
  have hpos : 0 < c.length := by rw [hc0]; exact hF.pos
  have hlen := repG_len c k
  have hown0 := hown
  rcases hown.2 with ⟨rfl, rfl⟩ | ⟨g, cap, cur, rfl, hgb, hh, hn, hcap, hsz, ht⟩
  · obtain ⟨v', w', hrun, r1, r2, _⟩ := run_append_own (P := Tryz.prog) w w.heap.size st ty e i0 z c.length bytes hF.und hF.info hF.zero hsz1 hF.by_ hzs hpos (.slice none 0 0) 0 [] (World.ownsRow_nil w _ e _) ad k cc (repG c k) hlen hc h1c (by unfold maxLen; omega) hby (Nat.le_refl _)
    refine ⟨v', w', hrun, ?_, World.ownsRow_nil _ _ _ _, fun u q _ hu => hu.none r2, r2, fun g hg => .inr (r1.lt g hg).1⟩
    exact owns_to (by simpa using r1) hbase
  · by_cases hfit : n + k ≤ cap
    · obtain ⟨w', hrun, r1, r2⟩ := run_append_fits (P := Tryz.prog) w base st ty e i0 c.length hF.und hF.info hsz1 g n cap (repG c n) hown0 ad k cc (repG c k) hlen hc h1c hfit
      rw [repG_add] at r1
      refine ⟨_, w', hrun, r1, ?_, fun u q hq hu => ?_, r2, fun g' hg' => .inl hg'⟩
      · rcases r1.2 with ⟨h', _⟩ | ⟨g', cap', cur', h', hb', hh', hn', hc', hs', ht'⟩
        · cases h'
        · cases h'
          refine ⟨by rw [repG_len], .inr ⟨g, cap, cur', rfl, hb', hh', by omega, hc', hs', ?_⟩⟩
          have := congrArg (List.take (n * c.length)) ht'
          rw [List.take_take, Nat.min_eq_left (Nat.mul_le_mul_right _ (by omega)), repG_take c n (n + k) (by omega)] at this
          exact this
      · obtain ⟨a, cap2, rfl, hcu⟩ := hu
        refine ⟨a, cap2, rfl, fun hq0 => ?_⟩
        obtain ⟨gu, rfl, ⟨cs, fz, hhu⟩, hcell⟩ := hcu hq0
        by_cases e1 : gu = g
        · subst e1
          rcases r1.2 with ⟨h', _⟩ | ⟨g', cap', cur', h', hb', hh', _⟩
          · cases h'
          · cases h'
            refine ⟨gu, rfl, ⟨cur', _, hh'⟩, fun j hj => ?_⟩
            rw [r1.cellAt j (Nat.lt_of_lt_of_le hj (Nat.mul_le_mul_right _ hq)), repG_pre c q (n + k) j hq hj]
        · have hblk := r2.block gu (lt_of_heap hhu) (by simp; exact e1)
          exact ⟨gu, rfl, ⟨cs, fz, by rw [hblk]; exact hhu⟩, fun j hj => by rw [World.cell?_of_block (w := w) (a := ⟨gu, j, none⟩) hblk]; exact hcell j hj⟩
    · obtain ⟨v', w', hrun, r1, r2⟩ := run_append_arg_grows (P := Tryz.prog) w st ty e i0 z c.length bytes hF.und hF.info hF.zero hsz1 hF.by_ hzs hpos ⟨g, 0, none⟩ n cap (repG c n) (repG_len c n) (fun j u hj => by
          have hjn : j < n * c.length := by
            rcases Nat.lt_or_ge j (n * c.length) with h' | h'
            · exact h'
            · rw [List.getElem?_eq_none (by rw [repG_len]; exact h')] at hj; simp at hj
          rw [show (⟨g, 0, none⟩ : Addr).add j = ⟨g, j, none⟩ by unfold Addr.add; split <;> simp_all]
          rw [hown0.cellAt j hjn]; exact hj) ad k cc (repG c k) hlen hc (by omega) (by unfold maxLen; omega) hby
      rw [repG_add] at r1
      exact ⟨v', w', hrun, owns_to r1 hbase, hown0.kept r2 (Classical.em _), fun u q _ hu => hu.none r2, ⟨r2.os, r2.tape, r2.output, r2.size, fun j hj _ => r2.block j hj (by simp)⟩, fun g' hg' => .inr (r1.lt g' hg').1⟩

theorem wpList_markG {st e : TypeId} {size bytes : Nat} {i0 : TypeInfo} {z : Value} (hF : Fam st e size bytes i0 z) (w : World) {ops : Array Oper} {rest : List Oper} {o : Oper} {a : Act} {Q : Exit → Act → World → Prop}
    (hg : o.guard = none) (s x : Operand) (hop : o.op = Op.call { callee := Callee.builtin Builtin.append, args := #[s, x], argTypes := #[st, st] })
    (base n k : Nat) (c : List Value) (hc0 : c.length = size) (h1 : ∀ u ∈ c, u.oneCell' = true) (v : Value) (hs : a.eval s = v) (hown : w.ownsRow base e c.length v n (repG c n)) (ad : Addr) (cc : Nat) (hx : a.eval x = .slice (some ad) k cc) (hc : ∀ j u, (repG c k)[j]? = some u → w.cell? (ad.add j) = some u)
    (hk : 0 < k) (hb : n + k ≤ 9223372036854775807) (hby : (n + k) * bytes ≤ 140737488355328) (hbase : base ≤ w.heap.size)
    (h : ∀ g cap w', MarkedG e w w' base n k c v (.slice (some ⟨g, 0, none⟩) (n + k) cap) → wpList Tryz.prog ops Q rest (a.put o.dst (.slice (some ⟨g, 0, none⟩) (n + k) cap)) w') :
    wpList Tryz.prog ops Q (o :: rest) a w := by
  refine wpList_plain hg fun K hK' => ?_
  obtain ⟨v', w', hrun, r⟩ := run_markG hF w o.type base n k c hc0 h1 v hown ad cc hc hk hb hby hbase
  unfold Oper.wp
  simp [execOp, hop, resolve, invoke, builtin, hs, hx, hrun, Result.andThen]
  obtain ⟨a', cap', hv', hsome⟩ := owns_forms r.new
  obtain ⟨g, rfl⟩ := hsome (by omega)
  subst hv'
  exact hK' _ _ (h g cap' w' r)

/-- A list that came out, and the three begun at it. -/
structure KeptG (e : TypeId) (w : World) (l o t h : Value) (n : Nat) (c : List Value) : Prop where
  fa : MkG e w l n c
  fb : MkG e w o (n + 1) c
  fc : MkG e w t (n + 2) c
  fd : MkG e w h (n + 3) c
theorem KeptG.later {e : TypeId} {w w' : World} {l o t h : Value} {n : Nat} {c : List Value} (k : KeptG e w l o t h n c) (hb : Below w.heap.size w w') : KeptG e w' l o t h n c :=
  ⟨k.fa.later hb, k.fb.later hb, k.fc.later hb, k.fd.later hb⟩
theorem KeptG.far {e : TypeId} {w w' : World} {l o t h : Value} {n : Nat} {c : List Value} {row : Option Nat} (k : KeptG e w l o t h n c) (hg : w.grownBy w' row) (hr : ∀ r, row = some r → ∃ cs t fz, w.heap[r]? = some (.cells cs t fz) ∧ t ≠ e) : KeptG e w' l o t h n c :=
  ⟨k.fa.far hg hr, k.fb.far hg hr, k.fc.far hg hr, k.fd.far hg hr⟩
end Go.Proofs.YtpdoacfiiledcaaGreatDoor.Own

namespace Go.Proofs.YtpdoacfiiledcaaGreatDoor.Own
open Go.RowKit Go.Proofs.YtpdoacfiiledcaaGreatDoor Go.Proofs.YtpdoacfiiledcaaGreatDoor.Spl
set_option linter.unusedVariables false

/-- A box of a list that came out, empty. -/
def zero5 : Array Value := #[.slice none 0 0, .slice none 0 0, .slice none 0 0, .slice none 0 0, .int .i64 0]
theorem owned_neG {e T : TypeId} (hTe : T ≠ e) {w : World} {base R n size : Nat} {v : Value} {xs : List Value} (h : w.ownsRow base e size v n xs) {cs : Array Value} (hR : w.heap[R]? = some (.cells cs T (0, 0))) : some R ≠ v.ownBlock := by
  intro er
  rcases h.2 with ⟨rfl, _⟩ | ⟨g, cap, cur, rfl, _, hh, _⟩
  · simp [Value.ownBlock] at er
  · simp [Value.ownBlock] at er
    subst er
    rw [hR] at hh
    simp at hh
    exact hTe hh.2
theorem res_onG {e T : TypeId} (hTe : T ≠ e) {W w2 : World} {base n k R : Nat} {c : List Value} {v v' : Value} {o : Obj} {cs : Array Value} (M : MarkedG e (W.alloc o) w2 base n k c v v') (hown : W.ownsRow base e c.length v n (repG c n)) (hR : W.heap[R]? = some (.cells cs T (0, 0))) : w2.heap[R]? = some (.cells cs T (0, 0)) := by
  have hlt := lt_of_heap hR
  rw [M.grown.block R (by simp; omega) (owned_neG hTe hown hR), Below.heap_alloc _ _ _ hlt]
  exact hR
theorem own_blockG {e T : TypeId} (hTe : T ≠ e) {W w2 w3 w4 : World} {base n R : Nat} {c : List Value} {v o t h : Value} {o1 o2 o3 : Obj} {cs : Array Value} (hR : W.heap[R]? = some (.cells cs T (0, 0)))
    (M1 : MarkedG e (W.alloc o1) w2 base n 1 c v o) (M2 : MarkedG e (w2.alloc o2) w3 base n 2 c v t) (M3 : MarkedG e (w3.alloc o3) w4 base n 3 c v h) (hown : W.ownsRow base e c.length v n (repG c n)) :
    w4.heap[R]? = some (.cells cs T (0, 0)) :=
  res_onG hTe M3 M2.old (res_onG hTe M2 M1.old (res_onG hTe M1 hown hR))
theorem cells5 {w : World} {R : Nat} {T : TypeId} (h : w.heap[R]? = some (.cells zero5 T (0, 0))) :
    w.cell? ⟨R, 0, none⟩ = some (.slice none 0 0) ∧ w.cell? ⟨R, 1, none⟩ = some (.slice none 0 0) ∧ w.cell? ⟨R, 2, none⟩ = some (.slice none 0 0) ∧ w.cell? ⟨R, 3, none⟩ = some (.slice none 0 0) ∧ w.cell? ⟨R, 4, none⟩ = some (.int .i64 0) ∧
    w.frozen? ⟨R, 0, none⟩ = false ∧ w.frozen? ⟨R, 1, none⟩ = false ∧ w.frozen? ⟨R, 2, none⟩ = false ∧ w.frozen? ⟨R, 3, none⟩ = false ∧ w.frozen? ⟨R, 4, none⟩ = false := by
  simp [World.cell?, World.frozen?, h, zero5]
theorem grown_cell (w : World) (R j : Nat) (x : Value) : w.grownBy (w.setCell ⟨R, j, none⟩ x) (some R) :=
  ⟨rfl, rfl, rfl, by simp [World.setCell], fun k hk hn => Below.heap_setCell _ _ _ _ (fun er => hn (by rw [er]))⟩
theorem kept_setG {e T : TypeId} (hTe : T ≠ e) {w : World} {R j : Nat} {x : Value} {cs : Array Value} {l o t h : Value} {n : Nat} {c : List Value} (hR : w.heap[R]? = some (.cells cs T (0, 0))) (k : KeptG e w l o t h n c) : KeptG e (w.setCell ⟨R, j, none⟩ x) l o t h n c :=
  k.far (grown_cell w R j x) (fun r hr => by injection hr with hr; subst hr; exact ⟨cs, T, _, hR, hTe⟩)
theorem res_setG {T : TypeId} {w : World} {R j : Nat} {x : Value} {cs : Array Value} (hR : w.heap[R]? = some (.cells cs T (0, 0))) : (w.setCell ⟨R, j, none⟩ x).heap[R]? = some (.cells (cs.setIfInBounds j x) T (0, 0)) := heap_setCell_same w R j cs T x hR

/-- What the three appends and the store of the result leave. -/
theorem own_endG {e T : TypeId} (hTe : T ≠ e) {w W w2 w3 w4 : World} {base n R : Nat} {c : List Value} {v o t h : Value} {o1 o2 o3 : Obj} (hR : W.heap[R]? = some (.cells zero5 T (0, 0))) (hb : Below base w W) (hbase : base ≤ W.heap.size) (hRb : base ≤ R)
    (M1 : MarkedG e (W.alloc o1) w2 base n 1 c v o) (M2 : MarkedG e (w2.alloc o2) w3 base n 2 c v t) (M3 : MarkedG e (w3.alloc o3) w4 base n 3 c v h) (hown : W.ownsRow base e c.length v n (repG c n)) (x0 x1 x2 x3 x4 : Value) :
    KeptG e (((((w4.setCell ⟨R, 0, none⟩ x0).setCell ⟨R, 1, none⟩ x1).setCell ⟨R, 2, none⟩ x2).setCell ⟨R, 3, none⟩ x3).setCell ⟨R, 4, none⟩ x4) v o t h n c ∧
    Below base w (((((w4.setCell ⟨R, 0, none⟩ x0).setCell ⟨R, 1, none⟩ x1).setCell ⟨R, 2, none⟩ x2).setCell ⟨R, 3, none⟩ x3).setCell ⟨R, 4, none⟩ x4) := by
  have hR4 := own_blockG hTe hR M1 M2 M3 hown
  have al : ∀ (X : World) (ob : Obj), Below X.heap.size X (X.alloc ob) := fun X ob => (Below.refl _ _).alloc (Nat.le_refl _) ob
  have hk : KeptG e w4 v o t h n c := by
    refine ⟨MkG.of_owns M3.old, ?_, ?_, MkG.of_owns M3.new⟩
    · exact M3.keep _ _ (by omega) ((M2.keep _ _ (by omega) ((MkG.of_owns M1.new).later (al _ _))).later (al _ _))
    · exact M3.keep _ _ (by omega) ((MkG.of_owns M2.new).later (al _ _))
  have hz2 := M1.grown.size
  have hz3 := M2.grown.size
  simp at hz2 hz3
  have b1 : Below base w w2 := (hb.alloc hbase _).grown M1.grown (by simp; omega) (fun k hk => (hown.lt k hk).1)
  have b2 : Below base w w3 := (b1.alloc (by omega) _).grown M2.grown (by simp; omega) (fun k hk => (M1.old.lt k hk).1)
  have b3 : Below base w w4 := (b2.alloc (by omega) _).grown M3.grown (by simp; omega) (fun k hk => (M2.old.lt k hk).1)
  exact ⟨kept_setG hTe (res_setG (res_setG (res_setG (res_setG hR4)))) (kept_setG hTe (res_setG (res_setG (res_setG hR4))) (kept_setG hTe (res_setG (res_setG hR4)) (kept_setG hTe (res_setG hR4) (kept_setG hTe hR4 hk)))),
    ((((b3.setCell (p := ⟨R, 0, none⟩) hRb x0).setCell (p := ⟨R, 1, none⟩) hRb x1).setCell (p := ⟨R, 2, none⟩) hRb x2).setCell (p := ⟨R, 3, none⟩) hRb x3).setCell (p := ⟨R, 4, none⟩) hRb x4⟩

/-- The mark of a list of bytes. -/
def mb (m : Nat) : Int := ((m % 251 : Nat) : Int)
end Go.Proofs.YtpdoacfiiledcaaGreatDoor.Own

namespace Go.Proofs.YtpdoacfiiledcaaGreatDoor.Own
open Go.RowKit Go.Proofs.YtpdoacfiiledcaaGreatDoor Go.Proofs.YtpdoacfiiledcaaGreatDoor.Spl
set_option linter.unusedVariables false

abbrev Kp := Go.Proofs.YtpdoacfiiledcaaGreatDoor.Pak.Kp

/-- What the three appends and the store of the result turn. -/
theorem own_endK {e : TypeId} {w W w2 w3 w4 : World} {base n R : Nat} {c : List Value} {v o t h : Value} {o1 o2 o3 : Obj} (hb : Kp v.ownBlock.toList w W) (hRb : w.heap.size ≤ R)
    (M1 : MarkedG e (W.alloc o1) w2 base n 1 c v o) (M2 : MarkedG e (w2.alloc o2) w3 base n 2 c v t) (M3 : MarkedG e (w3.alloc o3) w4 base n 3 c v h) (x0 x1 x2 x3 x4 : Value) :
    Kp v.ownBlock.toList w (((((w4.setCell ⟨R, 0, none⟩ x0).setCell ⟨R, 1, none⟩ x1).setCell ⟨R, 2, none⟩ x2).setCell ⟨R, 3, none⟩ x3).setCell ⟨R, 4, none⟩ x4) := by
  have g : ∀ k, v.ownBlock = some k → k ∈ v.ownBlock.toList ∨ w.heap.size ≤ k := fun k hk => .inl (by simp [hk])
  have b3 := (((((hb.alloc o1).grown M1.grown g).alloc o2).grown M2.grown g).alloc o3).grown M3.grown g
  exact ((((b3.setCell (p := ⟨R, 0, none⟩) (.inr hRb) x0).setCell (p := ⟨R, 1, none⟩) (.inr hRb) x1).setCell (p := ⟨R, 2, none⟩) (.inr hRb) x2).setCell (p := ⟨R, 3, none⟩) (.inr hRb) x3).setCell (p := ⟨R, 4, none⟩) (.inr hRb) x4

/-- The mark of a list of texts. -/
def mt (m : Nat) : Int := -1000 - (m : Int)
abbrev mtC (m : Nat) : List Value := [.int .i64 (mt m), .slice none 0 0]
theorem mt_wrap (m : Nat) (h : m ≤ 4611686018427387904) : IntKind.i64.wrap (-1000 - (m : Int)) = mt m := by
  unfold mt
  exact IntWalk.i64_in _ ⟨by omega, by omega⟩

/-- A box that is no part of the row stays, behind an append of marks. -/
theorem box_onG {e T : TypeId} {W w2 : World} {base n k X : Nat} {c : List Value} {v v' : Value} {o : Obj} {cs : Array Value} (M : MarkedG e (W.alloc o) w2 base n k c v v') (hne : v.ownBlock ≠ some X) (hX : W.heap[X]? = some (.cells cs T (0, 0))) : w2.heap[X]? = some (.cells cs T (0, 0)) := by
  have hlt := lt_of_heap hX
  rw [M.grown.block X (by simp; omega) hne.symm, Below.heap_alloc _ _ _ hlt]
  exact hX
end Go.Proofs.YtpdoacfiiledcaaGreatDoor.Own

namespace Go.Proofs.YtpdoacfiiledcaaGreatDoor.Spl
open Go.RowKit Go.Proofs.YtpdoacfiiledcaaGreatDoor Go.Proofs.YtpdoacfiiledcaaGreatDoor.SiftM
set_option linter.unusedVariables false

/-- The mark of a number. -/
def tx (m : Nat) : ByteArray := ⟨([40] ++ Lib.itoa m ++ [41]).toArray⟩
/-- A list of k entries, each the mark m. -/
def Mk (w : World) (u : Value) (k m : Nat) : Prop :=
  ∃ a cap, u = .slice a k cap ∧ (0 < k → ∃ g, a = some ⟨g, 0, none⟩ ∧ (∃ cs fz, w.heap[g]? = some (.cells cs 9 fz)) ∧ ∀ j, j < k → w.cell? ⟨g, j, none⟩ = some (.string (tx m)))

/-- What is kept of a list that came out. -/
structure Kept (w : World) (l o t h : Value) (n m : Nat) : Prop where
  a : Mk w l n m
  b : Mk w o (n + 1) m
  c : Mk w t (n + 2) m
  d : Mk w h (n + 3) m
  hn : n ≤ 900
theorem box5 {w w1 : World} {cs : Array Value} {t : TypeId} {j : Nat} {x : Value} (hj : cs[j]? = some x) (hb : Below (w.heap.size + 1) (w.alloc (.cells cs t)) w1) : w1.cell? ⟨w.heap.size, j, none⟩ = some x := by
  rw [hb.cell (by show w.heap.size < _; omega), World.cell?_alloc_at _ _ _ _ rfl]; exact hj

end Go.Proofs.YtpdoacfiiledcaaGreatDoor.Spl

namespace Go.Proofs.YtpdoacfiiledcaaGreatDoor.Spl
open Go.RowKit Go.Proofs.YtpdoacfiiledcaaGreatDoor Go.Proofs.YtpdoacfiiledcaaGreatDoor.SiftM
set_option linter.unusedVariables false

def rep (k m : Nat) : List Value := List.replicate k (.string (tx m))
/-- What an append of marks leaves. -/
structure Marked (w w' : World) (base n m k : Nat) (v v' : Value) : Prop where
  new : w'.ownsRow base 9 1 v' (n + k) (rep (n + k) m)
  old : w'.ownsRow base 9 1 v n (rep n m)
  keep : ∀ u q, q ≤ n + k → Mk w u q m → Mk w' u q m
  grown : w.grownBy w' v.ownBlock

end Go.Proofs.YtpdoacfiiledcaaGreatDoor.Spl

namespace Go.Proofs.YtpdoacfiiledcaaGreatDoor.Spl
open Go.RowKit Go.Proofs.YtpdoacfiiledcaaGreatDoor Go.Proofs.YtpdoacfiiledcaaGreatDoor.SiftM
set_option linter.unusedVariables false

/-- One list that came out: it, and the three begun at it. -/
structure One where
  l : Value
  o : Value
  t : Value
  h : Value
  n : Nat
def oneV (x : One) (i : Nat) : List Value := [x.l, x.o, x.t, x.h, .int .i64 (i : Int)]
def rowF : Nat → List One → List Value
  | _, [] => []
  | i, x :: t => oneV x i ++ rowF (i + 1) t
theorem rowF_append : ∀ (F G : List One) (i : Nat), rowF i (F ++ G) = rowF i F ++ rowF (i + F.length) G
  | [], _, _ => rfl
  | x :: t, G, i => by simp only [List.cons_append, rowF, rowF_append t G (i + 1), List.append_assoc, List.length_cons]; rw [show i + 1 + t.length = i + (t.length + 1) by omega]
/-- The fields of entry i. -/
theorem rowF_get : ∀ (F : List One) (i b : Nat) (x : One), F[i]? = some x → ∀ j, j < 5 → (rowF b F)[i * 5 + j]? = (oneV x (b + i))[j]?
  | [], i, b, x, h, j, hj => by simp at h
  | y :: t, 0, b, x, h, j, hj => by
    simp at h; subst h
    simp only [rowF]
    rw [List.getElem?_append_left (by simp [oneV]; omega)]
    simp
  | y :: t, i + 1, b, x, h, j, hj => by
    simp only [rowF]
    rw [List.getElem?_append_right (by simp [oneV]; omega)]
    have := rowF_get t i (b + 1) x (by simpa using h) j hj
    rw [show (i + 1) * 5 + j - (oneV y b).length = i * 5 + j by simp [oneV]; omega, this, show b + 1 + i = b + (i + 1) by omega]
def rowV (F : List One) : List Value := rowF 0 F
theorem rowV_snoc (F : List One) (x : One) : rowV (F ++ [x]) = rowV F ++ oneV x F.length := by
  unfold rowV; rw [rowF_append]; simp [rowF]

/-- The lists that came out, at block P. -/
structure Inv (w : World) (P : Nat) (F : List One) (v : Value) : Prop where
  hP : w.heap[P]? = some (.cells #[.slice none 0 0, .slice none 0 0, v, .slice none 0 0, .slice none 0 0, .slice none 0 0] 64 (0, 0))
  own : w.ownsRow (P + 1) 111 5 v F.length (rowV F)
  kept : ∀ i x, F[i]? = some x → Kept w x.l x.o x.t x.h x.n i

theorem heap_lt {w : World} {g : Nat} {o : Obj} (h : w.heap[g]? = some o) : g < w.heap.size := by
  rcases Nat.lt_or_ge g w.heap.size with h' | h'
  · exact h'
  · rw [Array.getElem?_eq_none h'] at h; simp at h
/-- A list of marks is not touched by what is done to a block of another kind. -/
theorem mk_far {w w' : World} {u : Value} {k m : Nat} {row : Option Nat} (hg : w.grownBy w' row) (hr : ∀ r, row = some r → ∃ cs t fz, w.heap[r]? = some (.cells cs t fz) ∧ t ≠ 9) (h : Mk w u k m) : Mk w' u k m := by
  obtain ⟨a, cap, rfl, hc⟩ := h
  refine ⟨a, cap, rfl, fun hk => ?_⟩
  obtain ⟨g, rfl, ⟨c9, fz, hh⟩, hcell⟩ := hc hk
  have hne : some g ≠ row := by
    intro e
    obtain ⟨cs, t, fz', h1, h2⟩ := hr g e.symm
    rw [hh] at h1
    simp at h1
    exact h2 h1.2.1.symm
  have hblk := hg.block g (heap_lt hh) hne
  exact ⟨g, rfl, ⟨c9, fz, by rw [hblk]; exact hh⟩, fun j hj => by rw [World.cell?_of_block (w := w) (a := ⟨g, j, none⟩) hblk]; exact hcell j hj⟩
theorem kept_far {w w' : World} {l o t h : Value} {n m : Nat} {row : Option Nat} (hg : w.grownBy w' row) (hr : ∀ r, row = some r → ∃ cs t fz, w.heap[r]? = some (.cells cs t fz) ∧ t ≠ 9) (k : Kept w l o t h n m) : Kept w' l o t h n m :=
  ⟨mk_far hg hr k.a, mk_far hg hr k.b, mk_far hg hr k.c, mk_far hg hr k.d, k.hn⟩
end Go.Proofs.YtpdoacfiiledcaaGreatDoor.Spl

namespace Go.Proofs.YtpdoacfiiledcaaGreatDoor.Spl
open Go.RowKit Go.Proofs.YtpdoacfiiledcaaGreatDoor Go.Proofs.YtpdoacfiiledcaaGreatDoor.SiftM
set_option linter.unusedVariables false

theorem heap_two (w : World) (X Y : Obj) : ((w.alloc X).alloc Y).drew.heap[w.heap.size + 1]? = some Y := by
  have h := heap_alloc_new (w.alloc X) Y
  rw [World.size_alloc] at h
  exact h
end Go.Proofs.YtpdoacfiiledcaaGreatDoor.Spl

namespace Go.Proofs.YtpdoacfiiledcaaGreatDoor.Own
open Go.RowKit Go.Proofs.YtpdoacfiiledcaaGreatDoor
open Go.Proofs.YtpdoacfiiledcaaGreatDoor.Spl
set_option linter.unusedVariables false

abbrev E1 := Go.Proofs.YtpdoacfiiledcaaGreatDoor.Spl.One
/-- What is said of an entry stays where another kind of block turns. -/
def Steady (e : TypeId) (K : World → E1 → Nat → Prop) : Prop :=
  ∀ w w' x i row, K w x i → w.grownBy w' row → (∀ r, row = some r → ∃ cs t fz, w.heap[r]? = some (.cells cs t fz) ∧ t ≠ e) → K w' x i
/-- E1 row of lists that came out. -/
def Row (T : TypeId) (K : World → E1 → Nat → Prop) (w : World) (P : Nat) (F : List E1) (v : Value) : Prop :=
  w.ownsRow (P + 1) T 5 v F.length (rowV F) ∧ ∀ i x, F[i]? = some x → K w x i

def K1 (w : World) (x : E1) (i : Nat) : Prop := KeptG 3 w x.l x.o x.t x.h x.n [.int .i64 (mt i)] ∧ x.n ≤ 1000000000
def K2 (w : World) (x : E1) (i : Nat) : Prop := Kept w x.l x.o x.t x.h x.n i
def K3 (w : World) (x : E1) (i : Nat) : Prop := KeptG 5 w x.l x.o x.t x.h x.n [.int .u8 (mb i)] ∧ x.n ≤ 100000000000
def K4 (w : World) (x : E1) (i : Nat) : Prop := KeptG 295 w x.l x.o x.t x.h x.n [.int .i64 (mt i), .int .i64 0, .int .i64 0, .int .i64 0, .int .i64 0, .int .i64 0] ∧ x.n ≤ 1000000000
def K5 (w : World) (x : E1) (i : Nat) : Prop := KeptG 226 w x.l x.o x.t x.h x.n (mtC i) ∧ x.n ≤ 1000000000
theorem s1 : Steady 3 K1 := fun w w' x i row h hg hr => ⟨h.1.far hg hr, h.2⟩
theorem s2 : Steady 9 K2 := fun w w' x i row h hg hr => kept_far hg hr h
theorem s3 : Steady 5 K3 := fun w w' x i row h hg hr => ⟨h.1.far hg hr, h.2⟩
theorem s4 : Steady 295 K4 := fun w w' x i row h hg hr => ⟨h.1.far hg hr, h.2⟩
theorem s5 : Steady 226 K5 := fun w w' x i row h hg hr => ⟨h.1.far hg hr, h.2⟩

theorem owns_farG {w w' : World} {base n size : Nat} {e : TypeId} {v : Value} {xs : List Value} {row : Option Nat} (h : w.ownsRow base e size v n xs) (hg : w.grownBy w' row) (hr : ∀ r, row = some r → ∃ cs t fz, w.heap[r]? = some (.cells cs t fz) ∧ t ≠ e) : w'.ownsRow base e size v n xs := by
  refine ⟨h.1, ?_⟩
  rcases h.2 with hn | ⟨g, cap, cur, rfl, hb, hh, rest⟩
  · exact .inl hn
  · refine .inr ⟨g, cap, cur, rfl, hb, ?_, rest⟩
    rw [hg.block g (lt_of_heap hh) (fun er => by
      obtain ⟨cs, t, fz, h1, h2⟩ := hr g er.symm
      rw [hh] at h1
      simp at h1
      exact h2 h1.2.1.symm)]
    exact hh
theorem own_kindG {w : World} {base n size : Nat} {T : TypeId} {v : Value} {xs : List Value} (h : w.ownsRow base T size v n xs) : ∀ r, v.ownBlock = some r → ∃ cs fz, w.heap[r]? = some (.cells cs T fz) := by
  intro r hr
  rcases h.2 with ⟨rfl, _⟩ | ⟨g, cap, cur, rfl, _, hh, _⟩
  · simp [Value.ownBlock] at hr
  · simp [Value.ownBlock] at hr
    subst hr
    exact ⟨cur, _, hh⟩
theorem grown_of_below {w w' : World} (h : Below w.heap.size w w') : w.grownBy w' none := ⟨h.os, h.tape, h.output, h.size, fun k hk _ => h.block k hk⟩

theorem Row.far {T e : TypeId} {K : World → E1 → Nat → Prop} (hK : Steady e K) {w w' : World} {P : Nat} {F : List E1} {v : Value} {row : Option Nat} (h : Row T K w P F v) (hg : w.grownBy w' row) (hr : ∀ r, row = some r → ∃ cs t fz, w.heap[r]? = some (.cells cs t fz) ∧ t ≠ e ∧ t ≠ T) : Row T K w' P F v :=
  ⟨owns_farG h.1 hg (fun r e1 => by obtain ⟨cs, t, fz, h1, h2, h3⟩ := hr r e1; exact ⟨cs, t, fz, h1, h3⟩), fun i x hx => hK _ _ _ _ _ (h.2 i x hx) hg (fun r e1 => by obtain ⟨cs, t, fz, h1, h2, h3⟩ := hr r e1; exact ⟨cs, t, fz, h1, h2⟩)⟩
/-- The row with one entry more. -/
theorem Row.push {T e : TypeId} (hTe : T ≠ e) {K : World → E1 → Nat → Prop} (hK : Steady e K) {w w' : World} {P : Nat} {F : List E1} {v v' : Value} {x : E1} (h : Row T K w P F v) (hg : w.grownBy w' v.ownBlock) (hk : K w x F.length)
    (hown : w'.ownsRow (P + 1) T 5 v' (F.length + 1) (rowV F ++ oneV x F.length)) : Row T K w' P (F ++ [x]) v' := by
  have hr : ∀ r, v.ownBlock = some r → ∃ cs t fz, w.heap[r]? = some (.cells cs t fz) ∧ t ≠ e := fun r e1 => by
    obtain ⟨cs, fz, h1⟩ := own_kindG h.1 r e1; exact ⟨cs, T, fz, h1, hTe⟩
  refine ⟨by rw [rowV_snoc, List.length_append]; exact hown, fun i y hy => ?_⟩
  by_cases hi : i < F.length
  · rw [List.getElem?_append_left hi] at hy
    exact hK _ _ _ _ _ (h.2 i y hy) hg hr
  · rw [List.getElem?_append_right (by omega)] at hy
    have he : i = F.length := by
      rcases Nat.lt_or_ge (i - F.length) 1 with h' | h'
      · omega
      · rw [List.getElem?_eq_none (by simpa using h')] at hy; simp at hy
    subst he
    simp at hy
    subst hy
    exact hK _ _ _ _ _ hk hg hr

/-- All lists that came out. -/
structure Ls where
  pv : Value
  v1 : Value
  v2 : Value
  v3 : Value
  v4 : Value
  v5 : Value
  F1 : List E1
  F2 : List E1
  F3 : List E1
  F4 : List E1
  F5 : List E1
structure Inv (w : World) (P : Nat) (L : Ls) : Prop where
  hP : w.heap[P]? = some (.cells #[L.pv, L.v1, L.v2, L.v3, L.v4, L.v5] 64 (0, 0))
  r1 : Row 109 K1 w P L.F1 L.v1
  r2 : Row 111 K2 w P L.F2 L.v2
  r3 : Row 114 K3 w P L.F3 L.v3
  r4 : Row 117 K4 w P L.F4 L.v4
  r5 : Row 119 K5 w P L.F5 L.v5

theorem Inv.later {w w' : World} {P : Nat} {L : Ls} (h : Inv w P L) (hb : Below w.heap.size w w') : Inv w' P L :=
  ⟨by rw [hb.block P (lt_of_heap h.hP)]; exact h.hP, h.r1.far s1 (grown_of_below hb) (fun r e => by cases e), h.r2.far s2 (grown_of_below hb) (fun r e => by cases e), h.r3.far s3 (grown_of_below hb) (fun r e => by cases e),
    h.r4.far s4 (grown_of_below hb) (fun r e => by cases e), h.r5.far s5 (grown_of_below hb) (fun r e => by cases e)⟩
/-- The world's own block turns in one cell. -/
theorem far_set {w : World} {P j : Nat} {x : Value} {cs : Array Value} (hP : w.heap[P]? = some (.cells cs 64 (0, 0))) (e T : TypeId) (h1 : 64 ≠ e) (h2 : 64 ≠ T) : ∀ r, some P = some r → ∃ cs t fz, w.heap[r]? = some (.cells cs t fz) ∧ t ≠ e ∧ t ≠ T := by
  intro r er; injection er with er; subst er; exact ⟨cs, 64, _, hP, h1, h2⟩
theorem Row.set {T e : TypeId} {K : World → E1 → Nat → Prop} (hK : Steady e K) (h1 : 64 ≠ e) (h2 : 64 ≠ T) {w : World} {P j : Nat} {F : List E1} {v x : Value} {cs : Array Value} (hP : w.heap[P]? = some (.cells cs 64 (0, 0))) (h : Row T K w P F v) : Row T K (w.setCell ⟨P, j, none⟩ x) P F v :=
  h.far hK (grown_cell w P j x) (far_set (j := j) (x := x) hP e T h1 h2)
end Go.Proofs.YtpdoacfiiledcaaGreatDoor.Own

