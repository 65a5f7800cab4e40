import Derived.Test.YtbkepgmgebmceaaGreatDoorU01

namespace Go.Proofs.YtbkepgmgebmceaaGreatDoor.Spl
open Go.RowKit Go.Proofs.YtbkepgmgebmceaaGreatDoor Go.Proofs.YtbkepgmgebmceaaGreatDoor.SiftM
set_option linter.unusedVariables false

theorem Tryz.info9 : (Tryz.prog.info? 9).map (fun i => (i.zero, i.size, i.bytes)) = some (some (.string ⟨#[]⟩), 1, 16) := by kernel_rfl

theorem grown_of_below {w w' : World} (h : Below w.heap.size w w') : w.grownBy w' none := ⟨h.os, h.tape, h.output, h.size, fun k hk _ => h.block k hk⟩
theorem owns_below {w w' : World} {base : Nat} {e : TypeId} {size : Nat} {v : Value} {n : Nat} {xs : List Value} (h : w.ownsRow base e size v n xs) (hb : Below w.heap.size w w') : w'.ownsRow base e size v n xs :=
  h.kept (grown_of_below hb) (Classical.em _)
/-- The values of a list of words. -/
def strV (l : List (List UInt8)) : List Value := l.map fun s => Value.string ⟨s.toArray⟩
theorem strV_length (l : List (List UInt8)) : (strV l).length = l.length := by simp [strV]
theorem strV_snoc (l : List (List UInt8)) (x : List UInt8) : strV (l ++ [x]) = strV l ++ [Value.string ⟨x.toArray⟩] := by simp [strV]

theorem runE_run (s : ByteArray) (k : Nat) (hk : k ≤ s.size) : (s.extract k (runE s k)).data.toList = (s.data.toList.drop k).takeWhile isW := by
  rw [Lib.extract_data]
  unfold runE
  rw [show k + ((s.data.toList.drop k).takeWhile isW).length - k = ((s.data.toList.drop k).takeWhile isW).length by omega]
  exact (List.prefix_iff_eq_take.1 (List.takeWhile_prefix _)).symm
theorem runE_le (s : ByteArray) (k : Nat) (hk : k ≤ s.size) : k ≤ runE s k ∧ runE s k ≤ s.size := by
  unfold runE
  have h := (List.takeWhile_prefix (l := s.data.toList.drop k) isW).length_le
  have hl : s.data.toList.length = s.size := by simp
  rw [List.length_drop] at h
  omega
theorem sp_open (s : ByteArray) (k : Nat) (hk : k < s.size) : sp s.size (s.data.toList.drop k) =
    (if ((s.data.toList.drop k).takeWhile isW).length = 0 then [] else [wordL ((s.data.toList.drop k).takeWhile isW)]) ++ sp s.size (s.data.toList.drop (runE s k + 1)) := by
  have hl : s.data.toList.length = s.size := by simp
  obtain ⟨f, hf⟩ : ∃ f, s.size = f + 1 := ⟨s.size - 1, by omega⟩
  rw [hf]
  conv => lhs; unfold sp
  rw [if_neg (by rw [List.length_drop]; omega), List.drop_drop]
  rw [show k + (((s.data.toList.drop k).takeWhile isW).length + 1) = runE s k + 1 by unfold runE; omega]
  rw [sp_fuel f (f + 1) _ (by rw [List.length_drop]; omega) (by rw [List.length_drop]; omega)]
theorem sp_step_word (s : ByteArray) (k : Nat) (acc : List (List UInt8)) (hk : k < s.size) (he : k < runE s k)
    (h : acc ++ sp s.size (s.data.toList.drop k) = sp s.size s.data.toList) :
    (acc ++ [wordL (s.extract k (runE s k)).data.toList]) ++ sp s.size (s.data.toList.drop (runE s k + 1)) = sp s.size s.data.toList := by
  rw [← h, sp_open s k hk, runE_run s k (by omega), if_neg (by unfold runE at he; omega), List.append_assoc]
theorem sp_step_none (s : ByteArray) (k : Nat) (acc : List (List UInt8)) (hk : k < s.size) (he : ¬ k < runE s k)
    (h : acc ++ sp s.size (s.data.toList.drop k) = sp s.size s.data.toList) :
    acc ++ sp s.size (s.data.toList.drop (runE s k + 1)) = sp s.size s.data.toList := by
  rw [← h, sp_open s k hk, if_pos (by unfold runE at he; omega), List.nil_append]
theorem sp_done (s : ByteArray) (k : Nat) (acc : List (List UInt8)) (hk : ¬ k < s.size)
    (h : acc ++ sp s.size (s.data.toList.drop k) = sp s.size s.data.toList) : acc = sp s.size s.data.toList := by
  rw [← h, List.drop_of_length_le (by simp; omega), sp_nil, List.append_nil]

set_option maxHeartbeats 400000 in
set_option maxRecDepth 100000 in
theorem splitW_any (s : ByteArray) (w : World) (hs : s.size ≤ 1000) :
    Calls Tryz.prog 144 #[.string s] w fun e w' => ∃ v, e = .returned v ∧ w'.ownsRow w.heap.size 9 1 v (sp s.size s.data.toList).length (strV (sp s.size s.data.toList)) ∧ Below w.heap.size w w' := by
  obtain ⟨i0, hi, hz0, hz1, hz2⟩ := info_parts Tryz.info9
  go_enter Tryz.func144, Tryz.ntmps144
  go_wp2_with fail
  go_loopw [3, 4] (fun v i wr => ∃ k : Nat, ∃ acc : List (List UInt8), k ≤ s.size + 1 ∧ acc.length ≤ k ∧ i = .int .i64 k ∧ wr.ownsRow w.heap.size 9 1 v acc.length (strV acc) ∧ acc ++ sp s.size (s.data.toList.drop k) = sp s.size s.data.toList ∧ Below w.heap.size w wr) (fun _ i _ => s.size + 1 - (intOf i).toNat)
  case atStart => exact ⟨0, [], Nat.zero_le _, Nat.zero_le _, rfl, World.ownsRow_nil _ _ _ _, rfl, Below.refl _ _⟩
  case round =>
    obtain ⟨k, acc, h1, h2, rfl, hown, hsp, hb⟩ := hrel
    have hbz := hb.size
    by_cases hlt : k < s.size
    · have hr := runE_le s k (by omega)
      by_cases he : k < runE s k
      · have HS := hide (sp_step_word s k acc hlt he hsp)
        replace hsp := hide hsp
        go_wp2_with fail
        refine (runEnd_any _ _ _ (by omega) (by omega)).mono ?_
        rintro e w' ⟨rfl, rfl⟩
        go_wp2_with fail
        refine (wordOf_any _ _ (by simp; omega)).mono ?_
        rintro e w1 ⟨rfl, hb1⟩
        have hown1 := owns_below hown hb1
        have hbz1 := hb1.size
        go_wp2_with (first
          | (at_builtin; refine wpList_append_own _ rfl _ _ 67 rfl w.heap.size 9 i0 (.string ⟨#[]⟩) 1 16 Tryz.underlying67 hi hz0 hz1 hz2 rfl (by decide) _ _ _ rfl (hown1.alloc _) ⟨w1.heap.size, 0, none⟩ 1 1 [.string ⟨(wordL (s.extract k (runE s k)).data.toList).toArray⟩] rfl rfl ?c1 ?c2 ?c3 ?c4 ?c5 ?_)
          | fail)
        case c1 =>
          intro j u hj
          match j, hj with
          | 0, hj => simp at hj; subst hj; simp [Addr.add]
        case c2 => intro u hu; simp at hu; subst hu; rfl
        case c3 => unfold maxLen; omega
        case c4 => omega
        case c5 => simp; omega
        intro v' w2 hown2 hgrow _
        go_wp2_with fail
        go_roundw
        case rel => 
          refine ⟨runE s k + 1, acc ++ [wordL (s.extract k (runE s k)).data.toList], by omega, by simp; omega, by go_num, ?_, HS.out, ?_⟩
          · rw [strV_snoc]; simpa using hown2
          · exact ((hb.trans (hb1.mono hbz)).alloc (by omega) _).grown hgrow (by simp; omega) (fun k hk => (hown1.lt k hk).1)
        case measure => simp [intOf]; omega
      · have HS := hide (sp_step_none s k acc hlt he hsp)
        replace hsp := hide hsp
        go_wp2_with fail
        refine (runEnd_any _ _ _ (by omega) (by omega)).mono ?_
        rintro e w' ⟨rfl, rfl⟩
        go_wp2_with fail
        go_roundw
        case rel => exact ⟨runE s k + 1, acc, by omega, by omega, by go_num, hown, HS.out, hb⟩
        case measure => simp [intOf]; omega
    · have HS := hide (sp_done s k acc hlt hsp)
      replace hsp := hide hsp
      go_wp2_with fail
      go_ret
      exact ⟨_, rfl, by rw [← HS.out]; exact hown, hb⟩
end Go.Proofs.YtbkepgmgebmceaaGreatDoor.Spl

namespace Go.Proofs.YtbkepgmgebmceaaGreatDoor.Spl
open Go.RowKit Go.Proofs.YtbkepgmgebmceaaGreatDoor Go.Proofs.YtbkepgmgebmceaaGreatDoor.SiftM
set_option linter.unusedVariables false

set_option maxHeartbeats 400000 in
theorem words_ok (s : ByteArray) (w : World) (hs : s.size ≤ 120) :
    Calls Tryz.prog 66 #[.string s] w fun e w' => ∃ v, e = .returned (.tuple #[v, .int .i64 0]) ∧ w'.ownsRow w.heap.size 9 1 v (sp s.size s.data.toList).length (strV (sp s.size s.data.toList)) ∧ Below w.heap.size w w' := by
  go_enter Tryz.func66, Tryz.ntmps66
  go_wp2_with fail
  refine (splitW_any _ _ (by omega)).mono ?_
  rintro e w1 ⟨v, rfl, hown, hb⟩
  go_wp2_with fail
  go_ret2
  exact ⟨_, rfl, hown, hb⟩

set_option maxHeartbeats 400000 in
theorem words_long (s : ByteArray) (w : World) (hs : 120 < s.size) :
    Calls Tryz.prog 66 #[.string s] w fun e w' => e = .returned (.tuple #[.slice none 0 0, .int .i64 4]) ∧ w' = w := by
  go_enter Tryz.func66, Tryz.ntmps66
  go_wp2_with fail
  go_ret2
  exact ⟨rfl, rfl⟩

set_option maxHeartbeats 400000 in
theorem same_none (a b : Option Addr) (ca cb : Nat) (w : World) :
    Calls Tryz.prog 68 #[.slice a 0 ca, .slice b 0 cb] w fun e w' => e = .returned (.bool true) ∧ Below w.heap.size w w' := by
  go_enter Tryz.func68, Tryz.ntmps68
  go_wp2_with fail
  refine wp_loop_rounds 1 ?_
  rw [rounds_succ]
  go_wp2_with fail
  go_ret
  exact ⟨rfl, Below.refl _ _⟩

theorem bel_drewN (w : World) (n : Nat) : Below w.heap.size w (w.drewN n) := ⟨rfl, rfl, rfl, Nat.le_refl _, fun _ _ => rfl⟩

set_option maxHeartbeats 400000 in
set_option maxRecDepth 100000 in
theorem same_true (ga gb n ca cb : Nat) (X : Nat → ByteArray) (w : World) (hn : n ≤ 1000)
    (ha : ∀ j, j < n → w.cell? ⟨ga, j, none⟩ = some (.string (X j))) (hb : ∀ j, j < n → w.cell? ⟨gb, j, none⟩ = some (.string (X j))) :
    Calls Tryz.prog 68 #[.slice (some ⟨ga, 0, none⟩) n ca, .slice (some ⟨gb, 0, none⟩) n cb] w fun e w' => e = .returned (.bool true) ∧ Below w.heap.size w w' := by
  go_enter Tryz.func68, Tryz.ntmps68
  go_wp2_with fail
  go_loopw [5] (fun i wr => ∃ k q : Nat, k ≤ n ∧ i = .int .i64 k ∧ wr = w.drewN q) (fun i _ => n - (intOf i).toNat)
  case atStart => exact ⟨0, 0, Nat.zero_le _, rfl, rfl⟩
  case round =>
    obtain ⟨k, q, hk, rfl, rfl⟩ := hrel
    by_cases hlt : k < n
    · have h1 := ha k hlt
      have h2 := hb k hlt
      have h3 : (k : Int) < (n : Int) := by omega
      have h4 : (0 : Int) ≤ (k : Int) := by omega
      go_wp2_with fail
      go_quiet (fail)
      go_wp2_with fail
      exact ⟨⟨k + 1, q + nq, by omega, by go_num, rfl⟩, by simp [intOf]; omega⟩
    · go_wp2_with fail
      go_ret
      exact ⟨rfl, bel_drewN _ _⟩
theorem owns_forms {w : World} {base size n : Nat} {e : TypeId} {v : Value} {xs : List Value} (h : w.ownsRow base e size v n xs) : ∃ a cap, v = .slice a n cap ∧ (0 < n → ∃ g, a = some ⟨g, 0, none⟩) := by
  rcases h.2 with ⟨rfl, rfl⟩ | ⟨g, cap, cur, rfl, _⟩
  · exact ⟨_, _, rfl, fun h => by omega⟩
  · exact ⟨_, _, rfl, fun _ => ⟨g, rfl⟩⟩
theorem owns_cells {w : World} {base n g cap : Nat} {l : List (List UInt8)} (h : w.ownsRow base 9 1 (.slice (some ⟨g, 0, none⟩) n cap) n (strV l)) (hl : l.length = n) :
    ∀ j, j < n → w.cell? ⟨g, j, none⟩ = some (.string ⟨(l.getD j []).toArray⟩) := by
  intro j hj
  rw [h.cellAt j (by omega)]
  simp [strV, List.getD_eq_getElem?_getD, List.getElem?_eq_getElem (by omega : j < l.length)]

theorem same_owned (va vb : Value) (A B : Nat) (l : List (List UInt8)) (w : World) (hn : l.length ≤ 1000)
    (ha : w.ownsRow A 9 1 va l.length (strV l)) (hb : w.ownsRow B 9 1 vb l.length (strV l)) :
    Calls Tryz.prog 68 #[va, vb] w fun e w' => e = .returned (.bool true) ∧ Below w.heap.size w w' := by
  obtain ⟨a, ca, rfl, fa⟩ := owns_forms ha
  obtain ⟨b, cb, rfl, fb⟩ := owns_forms hb
  by_cases h0 : l.length = 0
  · rw [h0]; exact same_none _ _ _ _ _
  · obtain ⟨ga, rfl⟩ := fa (by omega)
    obtain ⟨gb, rfl⟩ := fb (by omega)
    exact same_true ga gb l.length ca cb (fun j => ⟨(l.getD j []).toArray⟩) w hn (owns_cells ha rfl) (owns_cells hb rfl)

end Go.Proofs.YtbkepgmgebmceaaGreatDoor.Spl

namespace Go.Proofs.YtbkepgmgebmceaaGreatDoor.Pak
open Go.RowKit Go.Proofs.YtbkepgmgebmceaaGreatDoor Go.Proofs.YtbkepgmgebmceaaGreatDoor.Spl SiftM
set_option linter.unusedVariables false

/-- Of what was there in w nothing has turned but the blocks of S. -/
structure Kp (S : List Nat) (w w' : World) : Prop where
  os : w'.os = w.os
  tape : w'.tape = w.tape
  output : w'.output = w.output
  size : w.heap.size ≤ w'.heap.size
  block : ∀ k, k < w.heap.size → k ∉ S → w'.heap[k]? = w.heap[k]?

theorem Kp.refl (S : List Nat) (w : World) : Kp S w w := ⟨rfl, rfl, rfl, Nat.le_refl _, fun _ _ _ => rfl⟩
theorem Kp.trans {S S' : List Nat} {a b c : World} (h : Kp S a b) (k : Kp S' b c) (hS : ∀ x ∈ S', x ∈ S ∨ a.heap.size ≤ x) : Kp S a c :=
  ⟨k.os.trans h.os, k.tape.trans h.tape, k.output.trans h.output, Nat.le_trans h.size k.size, fun i hi hn =>
    (k.block i (Nat.lt_of_lt_of_le hi h.size) (fun hx => by rcases hS i hx with h' | h'; exact hn h'; omega)).trans (h.block i hi hn)⟩
theorem Kp.next {S : List Nat} {a b c : World} (h : Kp S a b) (k : Kp S b c) : Kp S a c := h.trans k fun _ hx => .inl hx
theorem Kp.mono {S S' : List Nat} {w w' : World} (h : Kp S w w') (hS : ∀ x ∈ S, x ∈ S') : Kp S' w w' :=
  ⟨h.os, h.tape, h.output, h.size, fun k hk hn => h.block k hk fun hx => hn (hS k hx)⟩
theorem Kp.of_below {w w' : World} (S : List Nat) (h : Below w.heap.size w w') : Kp S w w' := ⟨h.os, h.tape, h.output, h.size, fun k hk _ => h.block k hk⟩
theorem Kp.below {S : List Nat} {w w' : World} {B : Nat} (h : Kp S w w') (hB : B ≤ w.heap.size) (hS : ∀ x ∈ S, B ≤ x) : Below B w w' :=
  ⟨h.os, h.tape, h.output, h.size, fun k hk => h.block k (by omega) fun hx => by have := hS k hx; omega⟩
theorem Kp.alloc {S : List Nat} {a w : World} (h : Kp S a w) (o : Obj) : Kp S a (w.alloc o) :=
  h.next ⟨rfl, rfl, rfl, by simp, fun k hk _ => Below.heap_alloc _ _ _ hk⟩
theorem Kp.drewN {S : List Nat} {a w : World} (h : Kp S a w) (n : Nat) : Kp S a (w.drewN n) := ⟨h.os, h.tape, h.output, h.size, h.block⟩
theorem Kp.setCell {S : List Nat} {a w : World} (h : Kp S a w) {p : Addr} (hp : p.block ∈ S ∨ a.heap.size ≤ p.block) (u : Value) : Kp S a (w.setCell p u) :=
  h.trans (S' := [p.block]) ⟨rfl, rfl, rfl, by simp [World.setCell], fun k hk hn => Below.heap_setCell _ _ _ _ (by simpa using hn)⟩ (by simpa using hp)
theorem Kp.grown {S : List Nat} {a w w' : World} {row : Option Nat} (h : Kp S a w) (hg : w.grownBy w' row) (hr : ∀ k, row = some k → k ∈ S ∨ a.heap.size ≤ k) : Kp S a w' :=
  h.trans (S' := row.toList) ⟨hg.os, hg.tape, hg.output, hg.size, fun k hk hn => hg.block k hk (by intro e; apply hn; rw [← e]; simp)⟩ (by
    intro x hx
    cases row with
    | none => simp at hx
    | some y => simp at hx; subst hx; exact hr _ rfl)
theorem Kp.cell {S : List Nat} {w w' : World} (h : Kp S w w') {p : Addr} (hl : p.block < w.heap.size) (hp : p.block ∉ S) : w'.cell? p = w.cell? p := World.cell?_of_block (w := w) (h.block p.block hl hp)
theorem Kp.cellv {S : List Nat} {w w' : World} (h : Kp S w w') {p : Addr} {v : Value} (hv : w.cell? p = some v) (hp : p.block ∉ S) : w'.cell? p = some v := (h.cell (World.block_lt_of_cell? w p hv) hp).trans hv
theorem Kp.heap {S : List Nat} {w w' : World} (h : Kp S w w') {k : Nat} {o : Obj} (ho : w.heap[k]? = some o) (hp : k ∉ S) : w'.heap[k]? = some o :=
  (h.block k (Array.getElem?_eq_some_iff.1 ho).1 hp).trans ho
theorem Kp.owns {S : List Nat} {w w' : World} {base : Nat} {e : TypeId} {size : Nat} {v : Value} {n : Nat} {xs : List Value} (k : Kp S w w') (h : w.ownsRow base e size v n xs) (hne : ∀ g, v.ownBlock = some g → g ∉ S) : w'.ownsRow base e size v n xs := by
  refine ⟨h.1, ?_⟩
  rcases h.2 with hn | ⟨g, cap, cur, rfl, hb, hgg, rest⟩
  · exact .inl hn
  · exact .inr ⟨g, cap, cur, rfl, hb, k.heap hgg (hne g rfl), rest⟩
theorem heap_lt {w : World} {k : Nat} {o : Obj} (ho : w.heap[k]? = some o) : k < w.heap.size := (Array.getElem?_eq_some_iff.1 ho).1
/-- Blocks of different kinds are different blocks. -/
theorem owns_ne {w : World} {base R n size : Nat} {e t : TypeId} {v : Value} {xs : List Value} {fr : Nat × Nat} (h : w.ownsRow base e size v n xs) {cs : Array Value} (hR : w.heap[R]? = some (.cells cs t fr)) (ht : t ≠ e) : v.ownBlock ≠ some R := by
  intro ee
  rcases h.2 with ⟨rfl, _⟩ | ⟨g, cap, cur, rfl, _, hh, _⟩
  · simp [Value.ownBlock] at ee
  · simp [Value.ownBlock] at ee
    subst ee
    rw [hR] at hh
    simp at hh
    exact ht hh.2.1

/-- A view of bytes. -/
def Vw (w : World) (B : Nat) (a : Option Addr) (l : List UInt8) : Prop := (l = [] ∧ a = none) ∨ ∃ g off, a = some ⟨g, off, none⟩ ∧ g < B ∧ ∀ j (h : j < l.length), w.cell? ⟨g, off + j, none⟩ = some (.int .u8 (l[j].toNat : Int))
/-- The reader in block R: none: it has failed. -/
def Rd (w : World) (R B : Nat) : Option (List UInt8) → Prop
  | none => B ≤ R ∧ w.heap[R]? = some (.cells #[.slice none 0 0, .bool true] 418 (0, 0))
  | some l => B ≤ R ∧ ∃ a cap, w.heap[R]? = some (.cells #[.slice a l.length cap, .bool false] 418 (0, 0)) ∧ Vw w B a l ∧ l.length ≤ cap ∧ cap ≤ 9223372036854775807

def nextF : Option (List UInt8) → UInt8 × Option (List UInt8)
  | none => (0, none)
  | some [] => (0, none)
  | some (c :: r) => (c, some r)

theorem rd_cells {w : World} {R : Nat} {x y : Value} {t : TypeId} (h : w.heap[R]? = some (.cells #[x, y] t (0, 0))) :
    w.cell? ⟨R, 0, none⟩ = some x ∧ w.cell? ⟨R, 1, none⟩ = some y ∧ w.frozen? ⟨R, 0, none⟩ = false ∧ w.frozen? ⟨R, 1, none⟩ = false := by
  simp [World.cell?, World.frozen?, h]

set_option maxHeartbeats 400000 in
theorem fail_any (R B : Nat) (hB : B ≤ R) (x y : Value) (w : World) (h : w.heap[R]? = some (.cells #[x, y] 418 (0, 0))) :
    Calls Tryz.prog 311 #[.pointer (some ⟨R, 0, none⟩)] w fun e w' => e = .returned (.tuple #[]) ∧ Rd w' R B none ∧ Kp [R] w w' := by
  obtain ⟨c0, c1, f0, f1⟩ := rd_cells h
  have H := hide h
  clear h
  go_enter Tryz.func311, Tryz.ntmps311
  go_wp2_with fail
  go_end0
  refine ⟨rfl, ⟨hB, ?_⟩, ((Kp.refl _ _).setCell (.inl (by simp)) _).setCell (.inl (by simp)) _⟩
  have e1 := heap_setCell_same w R 1 _ 418 (.bool true) H.out
  have e2 := heap_setCell_same _ R 0 _ 418 (.slice none 0 0) e1
  rw [e2]; rfl
end Go.Proofs.YtbkepgmgebmceaaGreatDoor.Pak
