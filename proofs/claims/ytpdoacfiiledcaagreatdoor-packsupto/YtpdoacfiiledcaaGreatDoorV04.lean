import Derived.Test.YtpdoacfiiledcaaGreatDoorV01
import Derived.Laws.OwnMore
import Derived.ArgAppend
import Derived.Deep.RegionLaw
import Derived.Deep.AppendLies

namespace Go.Proofs.YtpdoacfiiledcaaGreatDoor.Own
open Go.RowKit Go.Proofs.YtpdoacfiiledcaaGreatDoor Go.Proofs.YtpdoacfiiledcaaGreatDoor.Spl
set_option linter.unusedVariables false

/-- k entries, each of the cells c. -/
def repG (c : List Value) : Nat → List Value
  | 0 => []
  | k + 1 => c ++ repG c k
theorem repG_len (c : List Value) : ∀ k, (repG c k).length = k * c.length
  | 0 => by simp [repG]
  | k + 1 => by rw [repG, List.length_append, repG_len c k, Nat.succ_mul, Nat.add_comm]
theorem repG_add (c : List Value) : ∀ a b, repG c a ++ repG c b = repG c (a + b)
  | 0, b => by simp [repG]
  | a + 1, b => by rw [repG, List.append_assoc, repG_add c a b, show a + 1 + b = (a + b) + 1 by omega, repG]
theorem repG_mem (c : List Value) : ∀ k, ∀ u ∈ repG c k, u ∈ c
  | 0, u, h => by simp [repG] at h
  | k + 1, u, h => by
    rw [repG] at h
    rcases List.mem_append.1 h with h | h
    · exact h
    · exact repG_mem c k u h
theorem repG_pre (c : List Value) (q p j : Nat) (h : q ≤ p) (hj : j < q * c.length) : (repG c p)[j]? = (repG c q)[j]? := by
  rw [show p = q + (p - q) by omega, ← repG_add, List.getElem?_append_left (by rw [repG_len]; exact hj)]
theorem repG_at (c : List Value) : ∀ (k i f : Nat), i < k → f < c.length → (repG c k)[i * c.length + f]? = c[f]?
  | 0, i, f, h, _ => by omega
  | k + 1, 0, f, _, hf => by rw [repG, Nat.zero_mul, Nat.zero_add, List.getElem?_append_left hf]
  | k + 1, i + 1, f, h, hf => by
    rw [repG, List.getElem?_append_right (by rw [Nat.succ_mul]; omega), show (i + 1) * c.length + f - c.length = i * c.length + f by rw [Nat.succ_mul]; omega]
    exact repG_at c k i f (by omega) hf
theorem repG_take (c : List Value) (n k : Nat) (h : n ≤ k) : (repG c k).take (n * c.length) = repG c n := by
  rw [show k = n + (k - n) by omega, ← repG_add, ← repG_len c n, List.take_left]

/-- What is asked of a kind of lists. -/
structure Fam (st e : TypeId) (size bytes : Nat) (i0 : TypeInfo) (z : Value) : Prop where
  und : Tryz.prog.underlying st = some (.slice e)
  info : Tryz.prog.info? e = some i0
  zero : i0.zero = some z
  sz : i0.size = size
  by_ : i0.bytes = bytes
  zs : z.cells.size = size
  pos : 0 < size

/-- A list all of whose entries are the mark c. -/
def MkG (e : TypeId) (w : World) (u : Value) (k : Nat) (c : List Value) : Prop :=
  ∃ a cap, u = .slice a k cap ∧ (0 < k → ∃ g, a = some ⟨g, 0, none⟩ ∧ (∃ cs fz, w.heap[g]? = some (.cells cs e fz)) ∧ ∀ j, j < k * c.length → w.cell? ⟨g, j, none⟩ = (repG c k)[j]?)

theorem lt_of_heap {w : World} {g : Nat} {o : Obj} (h : w.heap[g]? = some o) : g < w.heap.size := (Array.getElem?_eq_some_iff.1 h).1

/-- A list of marks is not touched by what is done to other blocks. -/
theorem MkG.blocks {e : TypeId} {w w' : World} {u : Value} {k : Nat} {c : List Value} (h : MkG e w u k c) (hb : ∀ g cs fz, u.ownBlock = some g → w.heap[g]? = some (.cells cs e fz) → w'.heap[g]? = w.heap[g]?) : MkG e w' u k c := by
  obtain ⟨a, cap, rfl, hc⟩ := h
  refine ⟨a, cap, rfl, fun hk => ?_⟩
  obtain ⟨g, rfl, ⟨cs, fz, hh⟩, hcell⟩ := hc hk
  have hblk := hb g cs fz rfl hh
  exact ⟨g, rfl, ⟨cs, fz, by rw [hblk]; exact hh⟩, fun j hj => by rw [World.cell?_of_block (w := w) (a := ⟨g, j, none⟩) hblk]; exact hcell j hj⟩
theorem MkG.later {e : TypeId} {w w' : World} {u : Value} {k : Nat} {c : List Value} (h : MkG e w u k c) (hb : Below w.heap.size w w') : MkG e w' u k c :=
  h.blocks fun g cs fz _ hh => hb.block g (lt_of_heap hh)
theorem MkG.none {e : TypeId} {w w' : World} {u : Value} {k : Nat} {c : List Value} (h : MkG e w u k c) (hg : w.grownBy w' none) : MkG e w' u k c :=
  h.blocks fun g cs fz _ hh => hg.block g (lt_of_heap hh) (by simp)
theorem MkG.far {e : TypeId} {w w' : World} {u : Value} {k : Nat} {c : List Value} {row : Option Nat} (h : MkG e w u k c) (hg : w.grownBy w' row) (hr : ∀ r, row = some r → ∃ cs t fz, w.heap[r]? = some (.cells cs t fz) ∧ t ≠ e) : MkG e w' u k c :=
  h.blocks fun g cs fz _ hh => hg.block g (lt_of_heap hh) (fun er => by
    obtain ⟨cs', t, fz', h1, h2⟩ := hr g er.symm
    rw [hh] at h1
    simp at h1
    exact h2 h1.2.1.symm)
theorem MkG.of_owns {e : TypeId} {w : World} {base k : Nat} {v : Value} {c : List Value} (h : w.ownsRow base e c.length v k (repG c k)) : MkG e w v k c := by
  rcases h.2 with ⟨rfl, rfl⟩ | ⟨g, cap, cur, rfl, hb, hh, hn, hcap, hsz, ht⟩
  · exact ⟨_, _, rfl, fun h => by omega⟩
  · exact ⟨_, _, rfl, fun _ => ⟨g, rfl, ⟨cur, _, hh⟩, fun j hj => h.cellAt j hj⟩⟩

theorem owns_to {w : World} {base base' : Nat} {e : TypeId} {size : Nat} {v : Value} {n : Nat} {xs : List Value} (h : w.ownsRow base e size v n xs) (hb : base' ≤ base) : w.ownsRow base' e size v n xs :=
  ⟨h.1, h.2.imp id fun ⟨g, cap, cur, h1, h2, h3⟩ => ⟨g, cap, cur, h1, by omega, h3⟩⟩

/-- What an append of marks leaves. -/
structure MarkedG (e : TypeId) (w w' : World) (base n k : Nat) (c : List Value) (v v' : Value) : Prop where
  new : w'.ownsRow base e c.length v' (n + k) (repG c (n + k))
  old : w'.ownsRow base e c.length v n (repG c n)
  keep : ∀ u q, q ≤ n + k → MkG e w u q c → MkG e w' u q c
  grown : w.grownBy w' v.ownBlock
  loc : ∀ g, v'.ownBlock = some g → v.ownBlock = some g ∨ w.heap.size ≤ g

theorem run_markG {st e : TypeId} {size bytes : Nat} {i0 : TypeInfo} {z : Value} (hF : Fam st e size bytes i0 z) (w : World) (ty base n k : Nat) (c : List Value) (hc0 : c.length = size) (h1 : ∀ u ∈ c, u.oneCell' = true) (v : Value) (hown : w.ownsRow base e c.length v n (repG c n)) (ad : Addr) (cc : Nat) (hc : ∀ j u, (repG c k)[j]? = some u → w.cell? (ad.add j) = some u)
    (hk : 0 < k) (hb : n + k ≤ 9223372036854775807) (hby : (n + k) * bytes ≤ 140737488355328) (hbase : base ≤ w.heap.size) :
    ∃ v' w', (Builtin.append_ #[st, st] ty #[v, .slice (some ad) k cc]).run Tryz.prog w = .ok v' w' ∧ MarkedG e w w' base n k c v v' := by
  have h1c : ∀ u ∈ repG c k, u.oneCell' = true := fun u hu => h1 u (repG_mem c k u hu)
  have hsz1 : i0.size = c.length := by rw [hc0]; exact hF.sz
  have hzs : z.cells.size = c.length := by rw [hc0]; exact hF.zs
  have hpos : 0 < c.length := by rw [hc0]; exact hF.pos
  have hlen := repG_len c k
  have hown0 := hown
  rcases hown.2 with ⟨rfl, rfl⟩ | ⟨g, cap, cur, rfl, hgb, hh, hn, hcap, hsz, ht⟩
  · obtain ⟨v', w', hrun, r1, r2, _⟩ := run_append_own (P := Tryz.prog) w w.heap.size st ty e i0 z c.length bytes hF.und hF.info hF.zero hsz1 hF.by_ hzs hpos (.slice none 0 0) 0 [] (World.ownsRow_nil w _ e _) ad k cc (repG c k) hlen hc h1c (by unfold maxLen; omega) hby (Nat.le_refl _)
    refine ⟨v', w', hrun, ?_, World.ownsRow_nil _ _ _ _, fun u q _ hu => hu.none r2, r2, fun g hg => .inr (r1.lt g hg).1⟩
    exact owns_to (by simpa using r1) hbase
  · by_cases hfit : n + k ≤ cap
    · obtain ⟨w', hrun, r1, r2⟩ := run_append_fits (P := Tryz.prog) w base st ty e i0 c.length hF.und hF.info hsz1 g n cap (repG c n) hown0 ad k cc (repG c k) hlen hc h1c hfit
      rw [repG_add] at r1
      refine ⟨_, w', hrun, r1, ?_, fun u q hq hu => ?_, r2, fun g' hg' => .inl hg'⟩
      · rcases r1.2 with ⟨h', _⟩ | ⟨g', cap', cur', h', hb', hh', hn', hc', hs', ht'⟩
        · cases h'
        · cases h'
          refine ⟨by rw [repG_len], .inr ⟨g, cap, cur', rfl, hb', hh', by omega, hc', hs', ?_⟩⟩
          have := congrArg (List.take (n * c.length)) ht'
          rw [List.take_take, Nat.min_eq_left (Nat.mul_le_mul_right _ (by omega)), repG_take c n (n + k) (by omega)] at this
          exact this
      · obtain ⟨a, cap2, rfl, hcu⟩ := hu
        refine ⟨a, cap2, rfl, fun hq0 => ?_⟩
        obtain ⟨gu, rfl, ⟨cs, fz, hhu⟩, hcell⟩ := hcu hq0
        by_cases e1 : gu = g
        · subst e1
          rcases r1.2 with ⟨h', _⟩ | ⟨g', cap', cur', h', hb', hh', _⟩
          · cases h'
          · cases h'
            refine ⟨gu, rfl, ⟨cur', _, hh'⟩, fun j hj => ?_⟩
            rw [r1.cellAt j (Nat.lt_of_lt_of_le hj (Nat.mul_le_mul_right _ hq)), repG_pre c q (n + k) j hq hj]
        · have hblk := r2.block gu (lt_of_heap hhu) (by simp; exact e1)
          exact ⟨gu, rfl, ⟨cs, fz, by rw [hblk]; exact hhu⟩, fun j hj => by rw [World.cell?_of_block (w := w) (a := ⟨gu, j, none⟩) hblk]; exact hcell j hj⟩
    · obtain ⟨v', w', hrun, r1, r2⟩ := run_append_arg_grows (P := Tryz.prog) w st ty e i0 z c.length bytes hF.und hF.info hF.zero hsz1 hF.by_ hzs hpos ⟨g, 0, none⟩ n cap (repG c n) (repG_len c n) (fun j u hj => by
          have hjn : j < n * c.length := by
            rcases Nat.lt_or_ge j (n * c.length) with h' | h'
            · exact h'
            · rw [List.getElem?_eq_none (by rw [repG_len]; exact h')] at hj; simp at hj
          rw [show (⟨g, 0, none⟩ : Addr).add j = ⟨g, j, none⟩ by unfold Addr.add; split <;> simp_all]
          rw [hown0.cellAt j hjn]; exact hj) ad k cc (repG c k) hlen hc (by omega) (by unfold maxLen; omega) hby
      rw [repG_add] at r1
      exact ⟨v', w', hrun, owns_to r1 hbase, hown0.kept r2 (Classical.em _), fun u q _ hu => hu.none r2, ⟨r2.os, r2.tape, r2.output, r2.size, fun j hj _ => r2.block j hj (by simp)⟩, fun g' hg' => .inr (r1.lt g' hg').1⟩

theorem wpList_markG {st e : TypeId} {size bytes : Nat} {i0 : TypeInfo} {z : Value} (hF : Fam st e size bytes i0 z) (w : World) {ops : Array Oper} {rest : List Oper} {o : Oper} {a : Act} {Q : Exit → Act → World → Prop}
    (hg : o.guard = none) (s x : Operand) (hop : o.op = Op.call { callee := Callee.builtin Builtin.append, args := #[s, x], argTypes := #[st, st] })
    (base n k : Nat) (c : List Value) (hc0 : c.length = size) (h1 : ∀ u ∈ c, u.oneCell' = true) (v : Value) (hs : a.eval s = v) (hown : w.ownsRow base e c.length v n (repG c n)) (ad : Addr) (cc : Nat) (hx : a.eval x = .slice (some ad) k cc) (hc : ∀ j u, (repG c k)[j]? = some u → w.cell? (ad.add j) = some u)
    (hk : 0 < k) (hb : n + k ≤ 9223372036854775807) (hby : (n + k) * bytes ≤ 140737488355328) (hbase : base ≤ w.heap.size)
    (h : ∀ g cap w', MarkedG e w w' base n k c v (.slice (some ⟨g, 0, none⟩) (n + k) cap) → wpList Tryz.prog ops Q rest (a.put o.dst (.slice (some ⟨g, 0, none⟩) (n + k) cap)) w') :
    wpList Tryz.prog ops Q (o :: rest) a w := by
  refine wpList_plain hg fun K hK' => ?_
  obtain ⟨v', w', hrun, r⟩ := run_markG hF w o.type base n k c hc0 h1 v hown ad cc hc hk hb hby hbase
  unfold Oper.wp
  simp [execOp, hop, resolve, invoke, builtin, hs, hx, hrun, Result.andThen]
  obtain ⟨a', cap', hv', hsome⟩ := owns_forms r.new
  obtain ⟨g, rfl⟩ := hsome (by omega)
  subst hv'
  exact hK' _ _ (h g cap' w' r)

/-- A list that came out, and the three begun at it. -/
structure KeptG (e : TypeId) (w : World) (l o t h : Value) (n : Nat) (c : List Value) : Prop where
  fa : MkG e w l n c
  fb : MkG e w o (n + 1) c
  fc : MkG e w t (n + 2) c
  fd : MkG e w h (n + 3) c
theorem KeptG.later {e : TypeId} {w w' : World} {l o t h : Value} {n : Nat} {c : List Value} (k : KeptG e w l o t h n c) (hb : Below w.heap.size w w') : KeptG e w' l o t h n c :=
  ⟨k.fa.later hb, k.fb.later hb, k.fc.later hb, k.fd.later hb⟩
theorem KeptG.far {e : TypeId} {w w' : World} {l o t h : Value} {n : Nat} {c : List Value} {row : Option Nat} (k : KeptG e w l o t h n c) (hg : w.grownBy w' row) (hr : ∀ r, row = some r → ∃ cs t fz, w.heap[r]? = some (.cells cs t fz) ∧ t ≠ e) : KeptG e w' l o t h n c :=
  ⟨k.fa.far hg hr, k.fb.far hg hr, k.fc.far hg hr, k.fd.far hg hr⟩
end Go.Proofs.YtpdoacfiiledcaaGreatDoor.Own

namespace Go.Proofs.YtpdoacfiiledcaaGreatDoor.Own
open Go.RowKit Go.Proofs.YtpdoacfiiledcaaGreatDoor Go.Proofs.YtpdoacfiiledcaaGreatDoor.Spl
set_option linter.unusedVariables false

/-- A box of a list that came out, empty. -/
def zero5 : Array Value := #[.slice none 0 0, .slice none 0 0, .slice none 0 0, .slice none 0 0, .int .i64 0]
theorem owned_neG {e T : TypeId} (hTe : T ≠ e) {w : World} {base R n size : Nat} {v : Value} {xs : List Value} (h : w.ownsRow base e size v n xs) {cs : Array Value} (hR : w.heap[R]? = some (.cells cs T (0, 0))) : some R ≠ v.ownBlock := by
  intro er
  rcases h.2 with ⟨rfl, _⟩ | ⟨g, cap, cur, rfl, _, hh, _⟩
  · simp [Value.ownBlock] at er
  · simp [Value.ownBlock] at er
    subst er
    rw [hR] at hh
    simp at hh
    exact hTe hh.2
theorem res_onG {e T : TypeId} (hTe : T ≠ e) {W w2 : World} {base n k R : Nat} {c : List Value} {v v' : Value} {o : Obj} {cs : Array Value} (M : MarkedG e (W.alloc o) w2 base n k c v v') (hown : W.ownsRow base e c.length v n (repG c n)) (hR : W.heap[R]? = some (.cells cs T (0, 0))) : w2.heap[R]? = some (.cells cs T (0, 0)) := by
  have hlt := lt_of_heap hR
  rw [M.grown.block R (by simp; omega) (owned_neG hTe hown hR), Below.heap_alloc _ _ _ hlt]
  exact hR
theorem own_blockG {e T : TypeId} (hTe : T ≠ e) {W w2 w3 w4 : World} {base n R : Nat} {c : List Value} {v o t h : Value} {o1 o2 o3 : Obj} {cs : Array Value} (hR : W.heap[R]? = some (.cells cs T (0, 0)))
    (M1 : MarkedG e (W.alloc o1) w2 base n 1 c v o) (M2 : MarkedG e (w2.alloc o2) w3 base n 2 c v t) (M3 : MarkedG e (w3.alloc o3) w4 base n 3 c v h) (hown : W.ownsRow base e c.length v n (repG c n)) :
    w4.heap[R]? = some (.cells cs T (0, 0)) :=
  res_onG hTe M3 M2.old (res_onG hTe M2 M1.old (res_onG hTe M1 hown hR))
theorem cells5 {w : World} {R : Nat} {T : TypeId} (h : w.heap[R]? = some (.cells zero5 T (0, 0))) :
    w.cell? ⟨R, 0, none⟩ = some (.slice none 0 0) ∧ w.cell? ⟨R, 1, none⟩ = some (.slice none 0 0) ∧ w.cell? ⟨R, 2, none⟩ = some (.slice none 0 0) ∧ w.cell? ⟨R, 3, none⟩ = some (.slice none 0 0) ∧ w.cell? ⟨R, 4, none⟩ = some (.int .i64 0) ∧
    w.frozen? ⟨R, 0, none⟩ = false ∧ w.frozen? ⟨R, 1, none⟩ = false ∧ w.frozen? ⟨R, 2, none⟩ = false ∧ w.frozen? ⟨R, 3, none⟩ = false ∧ w.frozen? ⟨R, 4, none⟩ = false := by
  simp [World.cell?, World.frozen?, h, zero5]
theorem grown_cell (w : World) (R j : Nat) (x : Value) : w.grownBy (w.setCell ⟨R, j, none⟩ x) (some R) :=
  ⟨rfl, rfl, rfl, by simp [World.setCell], fun k hk hn => Below.heap_setCell _ _ _ _ (fun er => hn (by rw [er]))⟩
theorem kept_setG {e T : TypeId} (hTe : T ≠ e) {w : World} {R j : Nat} {x : Value} {cs : Array Value} {l o t h : Value} {n : Nat} {c : List Value} (hR : w.heap[R]? = some (.cells cs T (0, 0))) (k : KeptG e w l o t h n c) : KeptG e (w.setCell ⟨R, j, none⟩ x) l o t h n c :=
  k.far (grown_cell w R j x) (fun r hr => by injection hr with hr; subst hr; exact ⟨cs, T, _, hR, hTe⟩)
theorem res_setG {T : TypeId} {w : World} {R j : Nat} {x : Value} {cs : Array Value} (hR : w.heap[R]? = some (.cells cs T (0, 0))) : (w.setCell ⟨R, j, none⟩ x).heap[R]? = some (.cells (cs.setIfInBounds j x) T (0, 0)) := heap_setCell_same w R j cs T x hR

/-- What the three appends and the store of the result leave. -/
theorem own_endG {e T : TypeId} (hTe : T ≠ e) {w W w2 w3 w4 : World} {base n R : Nat} {c : List Value} {v o t h : Value} {o1 o2 o3 : Obj} (hR : W.heap[R]? = some (.cells zero5 T (0, 0))) (hb : Below base w W) (hbase : base ≤ W.heap.size) (hRb : base ≤ R)
    (M1 : MarkedG e (W.alloc o1) w2 base n 1 c v o) (M2 : MarkedG e (w2.alloc o2) w3 base n 2 c v t) (M3 : MarkedG e (w3.alloc o3) w4 base n 3 c v h) (hown : W.ownsRow base e c.length v n (repG c n)) (x0 x1 x2 x3 x4 : Value) :
    KeptG e (((((w4.setCell ⟨R, 0, none⟩ x0).setCell ⟨R, 1, none⟩ x1).setCell ⟨R, 2, none⟩ x2).setCell ⟨R, 3, none⟩ x3).setCell ⟨R, 4, none⟩ x4) v o t h n c ∧
    Below base w (((((w4.setCell ⟨R, 0, none⟩ x0).setCell ⟨R, 1, none⟩ x1).setCell ⟨R, 2, none⟩ x2).setCell ⟨R, 3, none⟩ x3).setCell ⟨R, 4, none⟩ x4) := by
  have hR4 := own_blockG hTe hR M1 M2 M3 hown
  have al : ∀ (X : World) (ob : Obj), Below X.heap.size X (X.alloc ob) := fun X ob => (Below.refl _ _).alloc (Nat.le_refl _) ob
  have hk : KeptG e w4 v o t h n c := by
    refine ⟨MkG.of_owns M3.old, ?_, ?_, MkG.of_owns M3.new⟩
    · exact M3.keep _ _ (by omega) ((M2.keep _ _ (by omega) ((MkG.of_owns M1.new).later (al _ _))).later (al _ _))
    · exact M3.keep _ _ (by omega) ((MkG.of_owns M2.new).later (al _ _))
  have hz2 := M1.grown.size
  have hz3 := M2.grown.size
  simp at hz2 hz3
  have b1 : Below base w w2 := (hb.alloc hbase _).grown M1.grown (by simp; omega) (fun k hk => (hown.lt k hk).1)
  have b2 : Below base w w3 := (b1.alloc (by omega) _).grown M2.grown (by simp; omega) (fun k hk => (M1.old.lt k hk).1)
  have b3 : Below base w w4 := (b2.alloc (by omega) _).grown M3.grown (by simp; omega) (fun k hk => (M2.old.lt k hk).1)
  exact ⟨kept_setG hTe (res_setG (res_setG (res_setG (res_setG hR4)))) (kept_setG hTe (res_setG (res_setG (res_setG hR4))) (kept_setG hTe (res_setG (res_setG hR4)) (kept_setG hTe (res_setG hR4) (kept_setG hTe hR4 hk)))),
    ((((b3.setCell (p := ⟨R, 0, none⟩) hRb x0).setCell (p := ⟨R, 1, none⟩) hRb x1).setCell (p := ⟨R, 2, none⟩) hRb x2).setCell (p := ⟨R, 3, none⟩) hRb x3).setCell (p := ⟨R, 4, none⟩) hRb x4⟩

theorem Tryz.info5o : (Tryz.prog.info? 5).map (fun i => (i.zero, i.size, i.bytes)) = some (some (.int .u8 0), 1, 1) := by kernel_rfl
theorem fam5 : ∃ i0, Fam 112 5 1 1 i0 (.int .u8 0) := by
  obtain ⟨i0, hi, hz0, hz1, hz2⟩ := info_parts Tryz.info5o
  exact ⟨i0, Tryz.underlying112, hi, hz0, hz1, hz2, rfl, by omega⟩
/-- The mark of a list of bytes. -/
def mb (m : Nat) : Int := ((m % 251 : Nat) : Int)
theorem mb_rem (m : Nat) : Int.tmod (m : Int) 251 = mb m := by rw [Int.tmod_eq_emod_of_nonneg (by omega)]; unfold mb; omega
theorem mb_wrap (m : Nat) : IntKind.u8.wrap (mb m) = mb m := by
  have h : m % 251 < 251 := Nat.mod_lt _ (by omega)
  unfold mb
  generalize m % 251 = k at h
  simp [IntKind.wrap, IntKind.signed, IntKind.bits]
  omega

set_option maxHeartbeats 1000000 in
set_option maxRecDepth 100000 in
theorem ownB_zero (base m : Nat) (a : Option Addr) (cap : Nat) (w : World) (hm : m ≤ 9223372036854775807) (hbase : base ≤ w.heap.size) (hown0 : w.ownsRow base 5 1 (.slice a 0 cap) 0 []) :
    Calls Tryz.prog 180 #[.slice a 0 cap, .int .i64 m] w fun e w' => ∃ o t h, e = .returned (.agg #[.slice a 0 cap, o, t, h, .int .i64 m]) ∧ KeptG 5 w' (.slice a 0 cap) o t h 0 [.int .u8 (mb m)] ∧ Below base w w' := by
  obtain ⟨i0, hF⟩ := fam5
  have q1 := mb_rem m
  have q2 := mb_wrap m
  have hone : ∀ u ∈ ([.int .u8 (mb m)] : List Value), u.oneCell' = true := by intro u hu; simp at hu; subst hu; rfl
  go_enter Tryz.func180, Tryz.ntmps180
  go_wp2_with fail
  obtain ⟨W, hW⟩ : ∃ W, w.alloc (.cells #[.slice none 0 0, .slice none 0 0, .slice none 0 0, .slice none 0 0, .int .i64 0] 114) = W := ⟨_, rfl⟩
  have hR : Hid (W.heap[w.heap.size]? = some (.cells zero5 114 (0, 0))) := by show _ = _; rw [← hW]; exact heap_alloc_new w _
  have hown : W.ownsRow base 5 1 (.slice a 0 cap) 0 (repG [.int .u8 (mb m)] 0) := by rw [← hW]; exact hown0.alloc _
  have hb0 : Below w.heap.size w W := by rw [← hW]; exact (Below.refl _ _).alloc (Nat.le_refl _) _
  have hbW : base ≤ W.heap.size := by rw [← hW]; simp; omega
  rw [hW]
  clear hW hown0
  refine wp_loop_rounds 1 ?_
  rw [rounds_succ]
  go_wp2_with (first
    | (at_builtin; refine wpList_markG hF _ rfl _ _ rfl base 0 1 [.int .u8 (mb m)] rfl hone _ rfl (hown.alloc _) ⟨W.heap.size, 0, none⟩ 1 rfl (World.news_of_block (cs := #[.int .u8 (mb m)]) (t := 5) (fr := (0, 0)) (heap_alloc_new _ _)) (by omega) (by omega) (by omega) (by simp; omega) ?_; intro go co w2 M1)
    | (at_builtin; refine wpList_markG hF _ rfl _ _ rfl base 0 2 [.int .u8 (mb m)] rfl hone _ rfl (M1.old.alloc _) ⟨w2.heap.size, 0, none⟩ 2 rfl (World.news_of_block (cs := #[.int .u8 (mb m), .int .u8 (mb m)]) (t := 5) (fr := (0, 0)) (heap_alloc_new _ _)) (by omega) (by omega) (by omega) (by have := M1.grown.size; simp at this ⊢; omega) ?_; intro gt ct w3 M2)
    | (at_builtin; refine wpList_markG hF _ rfl _ _ rfl base 0 3 [.int .u8 (mb m)] rfl hone _ rfl (M2.old.alloc _) ⟨w3.heap.size, 0, none⟩ 3 rfl (World.news_of_block (cs := #[.int .u8 (mb m), .int .u8 (mb m), .int .u8 (mb m)]) (t := 5) (fr := (0, 0)) (heap_alloc_new _ _)) (by omega) (by omega) (by omega) (by have := M1.grown.size; have := M2.grown.size; simp at *; omega) ?_; intro gh ch w4 M3; obtain ⟨r0, r1, r2, r3, r4, f0, f1, f2, f3, f4⟩ := cells5 (own_blockG (by decide) hR.out M1 M2 M3 hown))
    | fail)
  have hE := own_endG (R := w.heap.size) (by decide) hR.out (hb0.mono hbase) (by omega) hbase M1 M2 M3 hown (.slice a 0 cap) (.slice (some ⟨go, 0, none⟩) 1 co) (.slice (some ⟨gt, 0, none⟩) 2 ct) (.slice (some ⟨gh, 0, none⟩) 3 ch) (.int .i64 m)
  refine bodyPost_ret (v := .agg #[.slice a 0 cap, .slice (some ⟨go, 0, none⟩) 1 co, .slice (some ⟨gt, 0, none⟩) 2 ct, .slice (some ⟨gh, 0, none⟩) 3 ch, .int .i64 m]) (by simp [results, Tryz.results180, go_sem, r0, r1, r2, r3, r4]) rfl ⟨_, _, _, rfl, hE.1, hE.2⟩

theorem mark1 (x : Value) (n j : Nat) (ws : List Value) (hw : ws.length = n) (hj : j < n) : (repG [x] j ++ ws.drop j).set j x = repG [x] (j + 1) ++ ws.drop (j + 1) := by
  have hl : (repG [x] j).length = j := by rw [repG_len]; simp
  rw [List.set_append_right _ _ (by rw [hl]; omega), hl, Nat.sub_self]
  have h1 : ws.drop j = ws[j] :: ws.drop (j + 1) := List.drop_eq_getElem_cons (by omega)
  rw [h1, List.set_cons_zero, ← repG_add]
  simp [repG]

set_option maxHeartbeats 2000000 in
set_option maxRecDepth 100000 in
theorem ownB_some (base n m g cap : Nat) (ws : List Value) (w : World) (hm : m ≤ 9223372036854775807) (hbase : base ≤ w.heap.size) (hn : n ≤ 100000000000) (hws : ws.length = n) (hown0 : w.ownsRow base 5 1 (.slice (some ⟨g, 0, none⟩) n cap) n ws) :
    Calls Tryz.prog 180 #[.slice (some ⟨g, 0, none⟩) n cap, .int .i64 m] w fun e w' => ∃ o t h, e = .returned (.agg #[.slice (some ⟨g, 0, none⟩) n cap, o, t, h, .int .i64 m]) ∧ KeptG 5 w' (.slice (some ⟨g, 0, none⟩) n cap) o t h n [.int .u8 (mb m)] ∧ Below base w w' := by
  obtain ⟨i0, hF⟩ := fam5
  have q1 := mb_rem m
  have q2 := mb_wrap m
  have hone : ∀ u ∈ ([.int .u8 (mb m)] : List Value), u.oneCell' = true := by intro u hu; simp at hu; subst hu; rfl
  have hg := hown0.lt g rfl
  have hg1 := hg.1
  have hg2 := hg.2
  clear hg
  replace hws := hide hws
  have HO0 := hide hown0
  clear hown0
  go_enter Tryz.func180, Tryz.ntmps180
  go_wp2_with fail
  obtain ⟨W, hW⟩ : ∃ W, w.alloc (.cells #[.slice none 0 0, .slice none 0 0, .slice none 0 0, .slice none 0 0, .int .i64 0] 114) = W := ⟨_, rfl⟩
  have hR : Hid (W.heap[w.heap.size]? = some (.cells zero5 114 (0, 0))) := by show _ = _; rw [← hW]; exact heap_alloc_new w _
  have hown1 : Hid (W.ownsRow base 5 1 (.slice (some ⟨g, 0, none⟩) n cap) n ws) := by show World.ownsRow _ _ _ _ _ _ _; rw [← hW]; exact HO0.out.alloc _
  have hb0 : Below w.heap.size w W := by rw [← hW]; exact (Below.refl _ _).alloc (Nat.le_refl _) _
  have hbW : w.heap.size + 1 ≤ W.heap.size := by rw [← hW]; simp
  rw [hW]
  clear hW HO0
  go_loopw [6] (fun i wr => ∃ j : Nat, j ≤ n ∧ i = .int .i64 j ∧ Hid (wr.ownsRow base 5 1 (.slice (some ⟨g, 0, none⟩) n cap) n (repG [.int .u8 (mb m)] j ++ ws.drop j)) ∧ Hid (wr.heap[w.heap.size]? = some (.cells zero5 114 (0, 0))) ∧ Below base w wr ∧ w.heap.size + 1 ≤ wr.heap.size) (fun i _ => n - (intOf i).toNat)
  case atStart => exact ⟨0, Nat.zero_le _, rfl, hown1, hR, hb0.mono hbase, hbW⟩
  case round =>
    clear hown1 hR hb0 hbW
    obtain ⟨j, hj, rfl, hown, hR, hb, hz⟩ := hrel
    by_cases hlt : j < n
    · have h1 : (j : Int) < (n : Int) := by omega
      have h0 : (0 : Int) ≤ (j : Int) := by omega
      have hcell : ∃ x, wr.cell? ⟨g, j, none⟩ = some x := by
        have hl : (repG [.int .u8 (mb m)] j ++ ws.drop j).length = n := by rw [List.length_append, repG_len, List.length_drop, hws.out]; simp; omega
        exact ⟨_, by rw [hown.out.cellAt j (by omega), List.getElem?_eq_getElem (by omega)]⟩
      obtain ⟨x, hx⟩ := hcell
      have hfz : wr.frozen? ⟨g, j, none⟩ = false := hown.out.frozenAt j
      have hst := hide (hown.out.stored j (.int .u8 (mb m))).1
      have hmk := hide (mark1 (.int .u8 (mb m)) n j ws hws.out hlt)
      go_wp2_with fail
      go_roundw
      case rel =>
        refine ⟨j + 1, by omega, by go_num, ?_, ?_, hb.setCell (p := ⟨g, j, none⟩) hg1 _, by simpa using hz⟩
        · show World.ownsRow _ _ _ _ _ _ _
          have := hst.out; rw [hmk.out] at this; exact this
        · show _ = _
          rw [Below.heap_setCell _ _ _ _ (show w.heap.size ≠ g by omega)]; exact hR.out
      case measure => simp [intOf]; omega
    · have hjn : n = j := by omega
      subst hjn
      have hown2 := hown.out
      rw [List.drop_of_length_le (by rw [hws.out]; exact Nat.le_refl _), List.append_nil] at hown2
      replace hown := hown2
      clear hown2
      have hbr : base ≤ wr.heap.size := by omega
      have HZ := hide hz
      clear hz
      go_wp2_with (first
        | (at_builtin; refine wpList_markG hF _ rfl _ _ rfl base n 1 [.int .u8 (mb m)] rfl hone _ rfl (hown.alloc _) ⟨wr.heap.size, 0, none⟩ 1 rfl (World.news_of_block (cs := #[.int .u8 (mb m)]) (t := 5) (fr := (0, 0)) (heap_alloc_new _ _)) (by omega) (by omega) (by omega) (by simp; omega) ?_; intro go co w2 M1)
        | (at_builtin; refine wpList_markG hF _ rfl _ _ rfl base n 2 [.int .u8 (mb m)] rfl hone _ rfl (M1.old.alloc _) ⟨w2.heap.size, 0, none⟩ 2 rfl (World.news_of_block (cs := #[.int .u8 (mb m), .int .u8 (mb m)]) (t := 5) (fr := (0, 0)) (heap_alloc_new _ _)) (by omega) (by omega) (by omega) (by have := M1.grown.size; simp at this ⊢; omega) ?_; intro gt ct w3 M2)
        | (at_builtin; refine wpList_markG hF _ rfl _ _ rfl base n 3 [.int .u8 (mb m)] rfl hone _ rfl (M2.old.alloc _) ⟨w3.heap.size, 0, none⟩ 3 rfl (World.news_of_block (cs := #[.int .u8 (mb m), .int .u8 (mb m), .int .u8 (mb m)]) (t := 5) (fr := (0, 0)) (heap_alloc_new _ _)) (by omega) (by omega) (by omega) (by have := M1.grown.size; have := M2.grown.size; simp at *; omega) ?_; intro gh ch w4 M3; obtain ⟨r0, r1, r2, r3, r4, f0, f1, f2, f3, f4⟩ := cells5 (own_blockG (by decide) hR.out M1 M2 M3 hown))
        | fail)
      have hE := own_endG (R := w.heap.size) (by decide) hR.out hb (by omega) hbase M1 M2 M3 hown (.slice (some ⟨g, 0, none⟩) n cap) (.slice (some ⟨go, 0, none⟩) (n + 1) co) (.slice (some ⟨gt, 0, none⟩) (n + 2) ct) (.slice (some ⟨gh, 0, none⟩) (n + 3) ch) (.int .i64 m)
      refine bodyPost_ret (v := .agg #[.slice (some ⟨g, 0, none⟩) n cap, .slice (some ⟨go, 0, none⟩) (n + 1) co, .slice (some ⟨gt, 0, none⟩) (n + 2) ct, .slice (some ⟨gh, 0, none⟩) (n + 3) ch, .int .i64 m]) (by simp [results, Tryz.results180, go_sem, r0, r1, r2, r3, r4]) rfl ⟨_, _, _, rfl, hE.1, hE.2⟩

theorem ownB_any (base n m : Nat) (v : Value) (ws : List Value) (w : World) (hm : m ≤ 9223372036854775807) (hbase : base ≤ w.heap.size) (hn : n ≤ 100000000000) (hown : w.ownsRow base 5 1 v n ws) :
    Calls Tryz.prog 180 #[v, .int .i64 m] w fun e w' => ∃ o t h, e = .returned (.agg #[v, o, t, h, .int .i64 m]) ∧ KeptG 5 w' v o t h n [.int .u8 (mb m)] ∧ Below base w w' := by
  obtain ⟨a, cap, rfl, hsome⟩ := owns_forms hown
  have hl : ws.length = n := by have := hown.1; omega
  by_cases h0 : n = 0
  · subst h0
    have hw : ws = [] := List.length_eq_zero_iff.1 hl
    subst hw
    exact ownB_zero base m a cap w hm hbase hown
  · obtain ⟨g, rfl⟩ := hsome (by omega)
    exact ownB_some base n m g cap ws w hm hbase hn hl hown
end Go.Proofs.YtpdoacfiiledcaaGreatDoor.Own

namespace Go.Proofs.YtpdoacfiiledcaaGreatDoor.Own
open Go.RowKit Go.Proofs.YtpdoacfiiledcaaGreatDoor Go.Proofs.YtpdoacfiiledcaaGreatDoor.Spl
set_option linter.unusedVariables false

set_option maxHeartbeats 1000000 in
set_option maxRecDepth 100000 in
theorem allB_any (n m : Nat) (u : Value) (w : World) (hm : m ≤ 9223372036854775807) (hn : n ≤ 200000000000) (h : MkG 5 w u n [.int .u8 (mb m)]) :
    Calls Tryz.prog 121 #[u, .int .i64 m] w fun e w' => e = .returned (.bool true) ∧ w' = w := by
  have q1 := mb_rem m
  have q2 := mb_wrap m
  obtain ⟨a, cap, rfl, hc⟩ := h
  have HC := hide hc
  clear hc
  go_enter Tryz.func121, Tryz.ntmps121
  go_wp2_with fail
  go_loopw [5] (fun i wr => ∃ k : Nat, k ≤ n ∧ i = .int .i64 k ∧ wr = w) (fun i _ => n - (intOf i).toNat)
  case atStart => exact ⟨0, Nat.zero_le _, rfl, rfl⟩
  case round =>
    obtain ⟨k, hk, rfl, rfl⟩ := hrel
    by_cases hlt : k < n
    · obtain ⟨g, rfl, _, hcell⟩ := HC.out (by omega)
      have h1 : wr.cell? ⟨g, k, none⟩ = some (.int .u8 (mb m)) := by
        rw [hcell k (by simpa using hlt)]
        have := repG_at [Value.int .u8 (mb m)] n k 0 hlt (by simp)
        simpa using this
      have h3 : (k : Int) < (n : Int) := by omega
      have h4 : (0 : Int) ≤ (k : Int) := by omega
      clear hcell HC
      go_wp2_with fail
      go_roundw
      case rel => exact ⟨k + 1, by omega, by go_num, by first | rfl | trivial⟩
      case measure => simp [intOf]; omega
    · go_wp2_with fail
      go_ret
      exact ⟨rfl, rfl⟩

set_option maxHeartbeats 1000000 in
set_option maxRecDepth 100000 in
theorem stillB_any (n m : Nat) (l o t h : Value) (w : World) (hm : m ≤ 9223372036854775807) (hn : n ≤ 100000000000) (hk : KeptG 5 w l o t h n [.int .u8 (mb m)]) :
    Calls Tryz.prog 50 #[.agg #[l, o, t, h, .int .i64 m]] w fun e w' => e = .returned (.bool true) ∧ Below w.heap.size w w' := by
  have hb0 : Below w.heap.size w (w.alloc (.cells #[l, o, t, h, .int .i64 m] 114)) := (Below.refl _ _).alloc (Nat.le_refl _) _
  have hk0 := hide (hk.later hb0)
  have HB := hide hb0
  obtain ⟨a1, c1, rfl, _⟩ := hk.fa
  obtain ⟨a2, c2, rfl, _⟩ := hk.fb
  obtain ⟨a3, c3, rfl, _⟩ := hk.fc
  obtain ⟨a4, c4, rfl, _⟩ := hk.fd
  clear hk hb0
  go_enter Tryz.func50, Tryz.ntmps50
  go_wp2_with fail
  refine (allB_any n m _ _ hm (by omega) hk0.out.fa).mono ?_
  rintro e w1 ⟨rfl, rfl⟩
  go_wp2_with fail
  refine (allB_any (n + 1) m _ _ hm (by omega) hk0.out.fb).mono ?_
  rintro e w2 ⟨rfl, rfl⟩
  go_wp2_with fail
  refine (allB_any (n + 2) m _ _ hm (by omega) hk0.out.fc).mono ?_
  rintro e w3 ⟨rfl, rfl⟩
  go_wp2_with fail
  refine (allB_any (n + 3) m _ _ hm (by omega) hk0.out.fd).mono ?_
  rintro e w4 ⟨rfl, rfl⟩
  go_wp2_with fail
  go_ret
  exact ⟨rfl, HB.out⟩
end Go.Proofs.YtpdoacfiiledcaaGreatDoor.Own
