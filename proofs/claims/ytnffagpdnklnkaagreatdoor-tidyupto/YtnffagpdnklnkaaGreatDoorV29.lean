import Derived.Test.YtnffagpdnklnkaaGreatDoorV21
import Derived.Test.YtnffagpdnklnkaaGreatDoorV22
import Derived.Test.YtnffagpdnklnkaaGreatDoorV28
import Derived.Test.YtnffagpdnklnkaaGreatDoorV00
import Derived.Lib.SlBytesRow
import Derived.Lib.ConvBytes
set_option linter.unusedVariables false
set_option linter.unusedSimpArgs false
set_option maxRecDepth 8000
namespace Go.Proofs.YtnffagpdnklnkaaGreatDoor.Pak
open Go.RowKit Go.Proofs.YtnffagpdnklnkaaGreatDoor Go.Proofs.YtnffagpdnklnkaaGreatDoor.Spl SiftM
set_option maxHeartbeats 2000000 in
theorem disk2_any (w : World) : Calls Tryz.prog 67 #[] w fun e w' => e = .returned (pt (w.heap.size + 1)) ∧ Kp [] w w' ∧ DiskIs w' w.heap.size (w.heap.size + 1) w.heap.size [] ∧ w'.heap.size = w.heap.size + 2 := by
  have hmm := @run_makeMap Tryz.prog
  go_enter Tryz.func67, Tryz.ntmps67
  go_wp2_with fail
  go_ret
  refine ⟨?_, ((Kp.refl _ _).alloc _).alloc _, ⟨?_, ?_, fun f hf => by simp at hf, by simp, fun f hf => by simp at hf⟩, by simp⟩
  · simp [pt]
  · have := heap_alloc_new (w.alloc (.map #[] 0)) (.cells #[.map (some w.heap.size)] 122 (0, 0))
    rw [World.size_alloc] at this
    exact this
  · exact (dkM_made w).kp (S := []) ((Kp.refl _ _).alloc _) (by simp)
set_option maxHeartbeats 2000000 in
theorem over2_any (b f : Nat) (q : Option Addr) (w : World) : Calls Tryz.prog 66 #[.agg #[.int .i64 (b : Int), .int .i64 (f : Int)], .pointer q] w fun e w' => Kp [] w w' ∧ ∃ X hb, e = .returned (.pointer (some ⟨X, 0, none⟩)) ∧ (w.heap.size ≤ X ∧ X < w'.heap.size) ∧ (w.heap.size ≤ hb ∧ hb < w'.heap.size) ∧ PIs w' X w.heap.size [X, hb] (newP b f hb (.pointer q)) := by
  obtain ⟨W1, hW1⟩ : ∃ W1, w.alloc (.cells #[.int .i64 (b : Int), .int .i64 (f : Int)] 58) = W1 := ⟨_, rfl⟩
  have hb : W1.heap[w.heap.size]? = some (.cells #[.int .i64 (b : Int), .int .i64 (f : Int)] 58 (0, 0)) := by rw [← hW1]; exact heap_alloc_new w _
  obtain ⟨c0, c1, f0, f1⟩ := rd_cells hb
  have k1 : Kp [] w W1 := by rw [← hW1]; exact (Kp.refl _ _).alloc _
  have hs1 : W1.heap.size = w.heap.size + 1 := by rw [← hW1]; simp
  have HS := hide hs1
  clear hs1 hb
  have hmm := @run_makeMap Tryz.prog
  go_enter Tryz.func66, Tryz.ntmps66
  go_wp2_with fail
  go_ret
  have hz : ∀ o, ((W1.alloc (.map #[] 0)).alloc o).heap.size = w.heap.size + 3 := fun o => by simp [HS.out]
  have hz1 := HS.out
  refine ⟨(k1.alloc _).alloc _, _, W1.heap.size, rfl, ?_, ?_, ?_⟩
  · rw [hz]; constructor <;> omega
  · rw [hz]; constructor <;> omega
  · refine newP_is ?_ ?_ ?_ ?_ ?_
    · have := heap_alloc_new (W1.alloc (.map #[] 0)) (.cells (pxC (newP b f W1.heap.size (.pointer q))) 72 (0, 0))
      have e : (W1.alloc (.map #[] 0)).heap.size = W1.heap.size + 1 := by simp
      rw [e] at this
      exact this
    · rw [hz]; omega
    · simp
    · simp
    · exact (homIs_made W1).kp (S := []) ((Kp.refl _ _).alloc _) (by simp)
/-- A new index, over a new disk. -/
def NewD (w w' : World) (b f X : Nat) : Prop := ∃ hb d M, (w.heap.size ≤ X ∧ X < w'.heap.size) ∧ (w.heap.size ≤ hb ∧ hb < w'.heap.size) ∧ (w.heap.size ≤ d ∧ d < w'.heap.size) ∧ (w.heap.size ≤ M ∧ M < w'.heap.size) ∧ d ∉ [X, hb] ∧ M ∉ [X, hb] ∧ PIs w' X w.heap.size [X, hb] (newP b f hb (pt d)) ∧ DiskIs w' w.heap.size d M []
set_option maxHeartbeats 2000000 in
theorem empty2_any (b f : Nat) (w : World) : Calls Tryz.prog 28 #[.agg #[.int .i64 (b : Int), .int .i64 (f : Int)]] w fun e w' => Kp [] w w' ∧ ∃ X, e = .returned (.pointer (some ⟨X, 0, none⟩)) ∧ NewD w w' b f X := by
  obtain ⟨W1, hW1⟩ : ∃ W1, w.alloc (.cells #[.int .i64 (b : Int), .int .i64 (f : Int)] 58) = W1 := ⟨_, rfl⟩
  have hb : W1.heap[w.heap.size]? = some (.cells #[.int .i64 (b : Int), .int .i64 (f : Int)] 58 (0, 0)) := by rw [← hW1]; exact heap_alloc_new w _
  have k1 : Kp [] w W1 := by rw [← hW1]; exact (Kp.refl _ _).alloc _
  have hs1 : W1.heap.size = w.heap.size + 1 := by rw [← hW1]; simp
  have HS := hide hs1
  have hc := fun (W : World) (k : Kp [] W1 W) => rd_cells (k.heap hb (by simp))
  have HC := hide hc
  clear hs1 hb hc
  go_enter Tryz.func28, Tryz.ntmps28
  go_wp2_with fail
  have kd : Kp [] w W1.drew := k1.next ⟨rfl, rfl, rfl, Nat.le_refl _, fun _ _ _ => rfl⟩
  obtain ⟨c0, c1, f0, f1⟩ := HC.out W1.drew ⟨rfl, rfl, rfl, Nat.le_refl _, fun _ _ _ => rfl⟩
  have hcall := disk2_any W1.drew
  obtain ⟨d, hd⟩ : ∃ d, W1.drew.heap.size + 1 = d := ⟨_, rfl⟩
  rw [hd] at hcall
  have HD := hide hd
  unfold pt at hcall
  clear hd
  go_region_with (first
    | (refine hcall.mono ?_
       rintro e w2 ⟨rfl, k2, hdk, hz2⟩
       have HDK := hide hdk
       have HZ2 := hide hz2
       clear hdk hz2
       have k02 := kd.next k2
       obtain ⟨d0, d1, g0, g1⟩ := HC.out w2 (Kp.next (a := W1) (b := W1.drew) ⟨rfl, rfl, rfl, Nat.le_refl _, fun _ _ _ => rfl⟩ k2))
    | (refine (over2_any b f _ _).mono ?_
       rintro e w3 ⟨k3, X, hb, rfl, hX, hbz, hi⟩
       have HI := hide hi
       clear hi)
    | fail)
  all_goals
    go_wp2_with fail
    go_ret
    have hs := k02.size
    have hs3 := k3.size
    have hd := HD.out
    have hz2 := HZ2.out
    have hsd : W1.drew.heap.size = w.heap.size + 1 := by show W1.heap.size = _; exact HS.out
    have k03 := k02.next k3
    refine ⟨k03, X, rfl, hb, d, W1.drew.heap.size, ⟨by omega, hX.2⟩, ⟨by omega, hbz.2⟩, ⟨by omega, by omega⟩, ⟨by omega, by omega⟩, ?_, ?_, PIs.lower HI.out hs, ?_⟩
    · simp only [List.mem_cons, List.not_mem_nil, or_false, not_or]; omega
    · simp only [List.mem_cons, List.not_mem_nil, or_false, not_or]; omega
    · have h9 := HDK.out.kp k3 (by simp) (by simp) (by simp)
      exact ⟨h9.blk, h9.map, fun f hf => by simp at hf, h9.few, h9.small⟩
set_option maxHeartbeats 2000000 in
/-- The program's New, with settings that may be. -/
theorem new2_any (b f : Nat) (w : World) (hb1 : 1 ≤ b) (hb8 : b ≤ 8) (hf2 : 2 ≤ f) (hf4 : f ≤ 4) :
    Calls Tryz.prog 15 #[.agg #[.int .i64 (b : Int), .int .i64 (f : Int)]] w fun e w' => Kp [] w w' ∧ ∃ X, e = .returned (.tuple #[.pointer (some ⟨X, 0, none⟩), .int .i64 0]) ∧ NewD w w' b f X := by
  obtain ⟨W1, hW1⟩ : ∃ W1, w.alloc (.cells #[.int .i64 (b : Int), .int .i64 (f : Int)] 58) = W1 := ⟨_, rfl⟩
  have hb : W1.heap[w.heap.size]? = some (.cells #[.int .i64 (b : Int), .int .i64 (f : Int)] 58 (0, 0)) := by rw [← hW1]; exact heap_alloc_new w _
  obtain ⟨c0, c1, f0, f1⟩ := rd_cells hb
  have k1 : Kp [] w W1 := by rw [← hW1]; exact (Kp.refl _ _).alloc _
  have HB := hide hb
  clear hb
  have hmay := may_any (b : Int) (f : Int) W1
  have hc : cfgOk (b : Int) (f : Int) = true := by unfold cfgOk; simp; omega
  rw [hc] at hmay
  clear hc
  go_enter Tryz.func15, Tryz.ntmps15
  go_wp2_with fail
  refine hmay.mono ?_
  rintro e w2 ⟨rfl, k2⟩
  obtain ⟨d0, d1, g0, g1⟩ := rd_cells (k2.heap HB.out (by simp))
  go_wp2_with fail
  refine (empty2_any b f w2).mono ?_
  rintro e w3 ⟨k3, X, rfl, hN⟩
  have HN := hide hN
  clear hN
  go_wp2_with fail
  go_ret2
  have k02 := k1.next k2
  have hs := k02.size
  obtain ⟨hb, d, M, h1, h2, h3, h4, h5, h6, h7, h8⟩ := HN.out
  exact ⟨k02.next k3, X, rfl, hb, d, M, ⟨by omega, h1.2⟩, ⟨by omega, h2.2⟩, ⟨by omega, h3.2⟩, ⟨by omega, h4.2⟩, h5, h6, PIs.lower h7 hs, ⟨h8.blk, h8.map, fun f hf => by simp at hf, h8.few, h8.small⟩⟩
end Go.Proofs.YtnffagpdnklnkaaGreatDoor.Pak
namespace Go.Proofs.YtnffagpdnklnkaaGreatDoor.SiftM
theorem sp_sep (f : Nat) (c : UInt8) (l : List UInt8) (hc : isW c = false) : sp (f + 1) (c :: l) = sp f l := by
  conv => lhs; unfold sp
  rw [if_neg (by simp)]
  simp [hc]
theorem takeWhile_all (r l : List UInt8) (hr : ∀ c ∈ r, isW c = true) (hl : l = [] ∨ ∃ c t, l = c :: t ∧ isW c = false) : (r ++ l).takeWhile isW = r := by
  induction r with
  | nil =>
    rcases hl with rfl | ⟨c, t, rfl, hc⟩
    · rfl
    · simp [hc]
  | cons a r ih =>
    have ha := hr a (by simp)
    simp [ha, ih (fun c hc => hr c (by simp [hc]))]
theorem sp_run (f : Nat) (r l : List UInt8) (hr : ∀ c ∈ r, isW c = true) (hr0 : r ≠ []) (hl : l = [] ∨ ∃ c t, l = c :: t ∧ isW c = false) (hf : r.length + l.length ≤ f) :
    sp f (r ++ l) = wordL r :: sp f l := by
  have hlen : 0 < r.length := List.length_pos_iff.2 hr0
  cases f with
  | zero => omega
  | succ f =>
    conv => lhs; unfold sp
    rw [if_neg (by rw [List.length_append]; omega), takeWhile_all r l hr hl, if_neg (by omega)]
    rcases hl with rfl | ⟨c, t, rfl, hc⟩
    · rw [List.append_nil, List.drop_of_length_le (by omega), sp_nil, sp_nil]; rfl
    · rw [show (r ++ c :: t).drop (r.length + 1) = t by rw [List.drop_append]; simp]
      rw [sp_sep f c t hc]; rfl
/-- A text made of pieces: bytes between words, then the bytes of a word. -/
def joinP (ps : List (List UInt8 × List UInt8)) : List UInt8 := (ps.map fun p => p.1 ++ p.2).flatten
def okP (p : List UInt8 × List UInt8) : Prop := p.1 ≠ [] ∧ (∀ c ∈ p.1, isW c = false) ∧ p.2 ≠ [] ∧ (∀ c ∈ p.2, isW c = true)
theorem sp_seps (s l : List UInt8) (hs : ∀ c ∈ s, isW c = false) : ∀ f, s.length + l.length ≤ f → sp f (s ++ l) = sp f l := by
  induction s with
  | nil => intro f _; rfl
  | cons c s ih =>
    intro f hf
    simp at hf
    cases f with
    | zero => omega
    | succ f =>
      rw [List.cons_append, sp_sep f c _ (hs c (by simp)), ih (fun d hd => hs d (by simp [hd])) f (by omega)]
      exact sp_fuel _ _ _ (by omega) (by omega)
theorem sp_join (ps : List (List UInt8 × List UInt8)) (h : ∀ p ∈ ps, okP p) : ∀ f, (joinP ps).length ≤ f → sp f (joinP ps) = ps.map fun p => wordL p.2 := by
  induction ps with
  | nil => intro f _; exact sp_nil f
  | cons p ps ih =>
    intro f hf
    have hp := h p (by simp)
    have e : joinP (p :: ps) = p.1 ++ (p.2 ++ joinP ps) := by simp [joinP]
    rw [e] at hf ⊢
    simp at hf
    rw [sp_seps _ _ hp.2.1 f (by simp; omega)]
    have hh : joinP ps = [] ∨ ∃ c t, joinP ps = c :: t ∧ isW c = false := by
      cases ps with
      | nil => left; rfl
      | cons q qs =>
        right
        have hq := h q (by simp)
        obtain ⟨q1, q2⟩ := q
        cases q1 with
        | nil => exact absurd rfl hq.1
        | cons c t => exact ⟨c, t ++ (q2 ++ joinP qs), by simp [joinP], hq.2.1 c (by simp)⟩
    rw [sp_run f _ _ hp.2.2.2 hp.2.2.1 hh (by omega), ih (fun q hq => h q (by simp [hq])) f (by omega)]
    rfl
def vocL : List (List UInt8) := [[97], [98], [97, 98], [97, 98, 99], [99, 97, 98], [120, 49], [114, 101, 100], [114, 101, 100, 100, 105, 115, 104], [114], [102, 111, 120]]
def betL : List (List UInt8) := [[32], [44, 32], [45], [0, 255], [32, 32], [95]]
def tail8 : List UInt8 := [48, 49, 50, 51, 52, 53, 54, 55]
def shB (c : UInt8) (m : Nat) : UInt8 := if 97 ≤ c.toNat ∧ c.toNat ≤ 122 ∧ m % 3 = 0 then UInt8.ofNat (c.toNat - 32) else c
def shownL (how : Nat) : Nat → List UInt8 → List UInt8
  | _, [] => []
  | i, c :: t => shB c (how + i) :: shownL how (i + 1) t
def pickN (c : Int) : Nat := ((if c < 0 then -(c + 1) else c) % 1099511627776).toNat
def wOf (n : Nat) : List UInt8 := vocL.getD (n % 10) []
def sOf (n : Nat) : List UInt8 := betL.getD (n / 10 % 6) []
def rOf (n : Nat) : List UInt8 := shownL (n / 10 / 6) 0 (wOf n)
def itemP (len n : Nat) : List UInt8 × List UInt8 := if ext len n (sOf n) (rOf n) then (sOf n, rOf n ++ tail8) else (sOf n, rOf n)
def itemW (len n : Nat) : List UInt8 := if ext len n (sOf n) (rOf n) then (wOf n ++ tail8).take 8 else wOf n
def madeP (code : List Int) : Nat → List (List UInt8 × List UInt8)
  | 0 => []
  | k + 1 => madeP code k ++ [itemP (joinP (madeP code k)).length (pickN (code.getD k 0))]
def madeW (code : List Int) : Nat → List (List UInt8)
  | 0 => []
  | k + 1 => madeW code k ++ [itemW (joinP (madeP code k)).length (pickN (code.getD k 0))]
theorem voc_all (w : List UInt8) (h : w ∈ vocL) : w ≠ [] ∧ w.length ≤ 7 ∧ ∀ c ∈ w, isSm c = true := by
  revert w; decide
theorem bet_all (s : List UInt8) (h : s ∈ betL) : s ≠ [] ∧ s.length ≤ 2 ∧ ∀ c ∈ s, isW c = false := by
  revert s; decide
theorem getD_mem {α : Type} (l : List α) (k : Nat) (d : α) (h : k < l.length) : l.getD k d ∈ l := by
  rw [List.getD_eq_getElem?_getD, List.getElem?_eq_getElem h]; exact List.getElem_mem h
theorem wOf_all (n : Nat) : wOf n ≠ [] ∧ (wOf n).length ≤ 7 ∧ ∀ c ∈ wOf n, isSm c = true :=
  voc_all _ (getD_mem _ _ _ (by have : vocL.length = 10 := rfl; omega))
theorem sOf_all (n : Nat) : sOf n ≠ [] ∧ (sOf n).length ≤ 2 ∧ ∀ c ∈ sOf n, isW c = false :=
  bet_all _ (getD_mem _ _ _ (by have : betL.length = 6 := rfl; omega))
theorem isSm_iff (c : UInt8) : isSm c = true ↔ (97 ≤ c.toNat ∧ c.toNat ≤ 122) ∨ (48 ≤ c.toNat ∧ c.toNat ≤ 57) := by simp [isSm]
theorem low_shB (c : UInt8) (m : Nat) (h : isSm c = true) : low (shB c m) = c := by
  rw [isSm_iff] at h
  unfold shB
  split
  · rename_i hc
    have e : (UInt8.ofNat (c.toNat - 32)).toNat = c.toNat - 32 := by rw [UInt8.toNat_ofNat']; omega
    unfold low
    rw [if_pos (by rw [e]; omega)]
    rw [e, show c.toNat - 32 + 32 = c.toNat by omega, UInt8.ofNat_toNat]
  · unfold low; rw [if_neg (by omega)]
theorem low_shown (how : Nat) : ∀ (w : List UInt8) (i : Nat), (∀ c ∈ w, isSm c = true) → (shownL how i w).map low = w
  | [], _, _ => rfl
  | c :: t, i, h => by
    simp only [shownL, List.map_cons]
    rw [low_shB c _ (h c (by simp)), low_shown how t (i + 1) (fun d hd => h d (by simp [hd]))]
theorem isW_shown (how : Nat) : ∀ (w : List UInt8) (i : Nat), (∀ c ∈ w, isSm c = true) → ∀ d ∈ shownL how i w, isW d = true
  | [], _, _, d, hd => by simp [shownL] at hd
  | c :: t, i, h, d, hd => by
    simp only [shownL, List.mem_cons] at hd
    rcases hd with rfl | hd
    · unfold isW; rw [low_shB c _ (h c (by simp))]; exact h c (by simp)
    · exact isW_shown how t (i + 1) (fun d hd => h d (by simp [hd])) d hd
theorem len_shown (how : Nat) : ∀ (w : List UInt8) (i : Nat), (shownL how i w).length = w.length
  | [], _ => rfl
  | c :: t, i => by simp [shownL, len_shown how t (i + 1)]
theorem shownL_append (how : Nat) : ∀ (a b : List UInt8) (i : Nat), shownL how i (a ++ b) = shownL how i a ++ shownL how (i + a.length) b
  | [], _, _ => rfl
  | c :: t, b, i => by simp only [List.cons_append, shownL, shownL_append how t b (i + 1), List.length_cons]; rw [show i + 1 + t.length = i + (t.length + 1) by omega]
theorem low_tail : tail8.map low = tail8 := by decide
theorem isW_tail : ∀ c ∈ tail8, isW c = true := by decide
theorem item_ok (len n : Nat) : okP (itemP len n) := by
  have hw := wOf_all n
  have hs := sOf_all n
  have hr : ∀ d ∈ rOf n, isW d = true := isW_shown _ _ _ hw.2.2
  have h0 : rOf n ≠ [] := by
    intro h
    have := len_shown (n / 10 / 6) (wOf n) 0
    unfold rOf at h; rw [h] at this
    exact hw.1 (List.length_eq_zero_iff.1 this.symm)
  unfold itemP
  split
  · refine ⟨hs.1, hs.2.2, by simp [h0], ?_⟩
    intro c hc
    rcases List.mem_append.1 hc with hc | hc
    · exact hr c hc
    · exact isW_tail c hc
  · exact ⟨hs.1, hs.2.2, h0, hr⟩
theorem item_word (len n : Nat) : wordL (itemP len n).2 = itemW len n := by
  have hw := wOf_all n
  have hm : (rOf n).map low = wOf n := low_shown _ _ _ hw.2.2
  have hl : (rOf n).length = (wOf n).length := len_shown _ _ _
  unfold itemP itemW wordL
  split
  · rw [List.map_take, List.map_append, hm, low_tail]
  · rw [List.take_of_length_le (by show (rOf n).length ≤ 8; omega)]; exact hm
theorem made_ok (code : List Int) : ∀ (k : Nat), ∀ p ∈ madeP code k, okP p
  | 0, p, hp => by simp [madeP] at hp
  | k + 1, p, hp => by
    simp only [madeP, List.mem_append, List.mem_singleton] at hp
    rcases hp with hp | rfl
    · exact made_ok code k p hp
    · exact item_ok _ _
theorem made_words (code : List Int) : ∀ (k : Nat), (madeP code k).map (fun p => wordL p.2) = madeW code k
  | 0 => rfl
  | k + 1 => by simp only [madeP, madeW, List.map_append, List.map_cons, List.map_nil, made_words code k, item_word]
theorem join_snoc (ps : List (List UInt8 × List UInt8)) (p : List UInt8 × List UInt8) : joinP (ps ++ [p]) = joinP ps ++ (p.1 ++ p.2) := by simp [joinP]
theorem item_len (len n : Nat) : len + (itemP len n).1.length + (itemP len n).2.length ≤ len + 9 ∨ len + (itemP len n).1.length + (itemP len n).2.length ≤ 67 := by
  have hw := wOf_all n
  have hs := sOf_all n
  have hl : (rOf n).length = (wOf n).length := len_shown _ _ _
  unfold itemP
  split
  · rename_i h
    right
    have h2 : len + (sOf n).length + (rOf n).length < 60 := by unfold ext at h; simp at h; exact h.2
    have ht : tail8.length = 8 := rfl
    simp only [List.length_append, ht]; omega
  · left; show len + (sOf n).length + (rOf n).length ≤ _; omega
theorem item_len17 (len n : Nat) : len + (itemP len n).1.length + (itemP len n).2.length ≤ len + 17 := by
  have hw := wOf_all n
  have hs := sOf_all n
  have hl : (rOf n).length = (wOf n).length := len_shown _ _ _
  have ht : tail8.length = 8 := rfl
  unfold itemP
  split
  · simp only [List.length_append, ht]; omega
  · show len + (sOf n).length + (rOf n).length ≤ _; omega
theorem made_len (code : List Int) : ∀ (k : Nat), (joinP (madeP code k)).length ≤ 17 * k ∧ (4 ≤ k → (joinP (madeP code k)).length ≤ 32 + 9 * k)
  | 0 => by simp [madeP, joinP]
  | k + 1 => by
    have ih := made_len code k
    have a := item_len (joinP (madeP code k)).length (pickN (code.getD k 0))
    have b := item_len17 (joinP (madeP code k)).length (pickN (code.getD k 0))
    simp only [madeP, join_snoc, List.length_append]
    refine ⟨by omega, fun h4 => ?_⟩
    by_cases h : 4 ≤ k
    · have := ih.2 h; omega
    · omega
theorem made_le (code : List Int) (k : Nat) (hk : k ≤ 8) : (joinP (madeP code k)).length ≤ 104 := by
  have h := made_len code k
  by_cases h4 : 4 ≤ k
  · have := h.2 h4; omega
  · omega
/-- The words of a text are those of which it was made. -/
theorem made_split (code : List Int) (k f : Nat) (hf : (joinP (madeP code k)).length ≤ f) : sp f (joinP (madeP code k)) = madeW code k := by
  rw [sp_join _ (made_ok code k) f hf, made_words]
end Go.Proofs.YtnffagpdnklnkaaGreatDoor.SiftM
namespace Go.Proofs.YtnffagpdnklnkaaGreatDoor.Mad
open Go.RowKit Go.Proofs.YtnffagpdnklnkaaGreatDoor Go.Proofs.YtnffagpdnklnkaaGreatDoor.Spl Go.Proofs.YtnffagpdnklnkaaGreatDoor.SiftM
set_option maxHeartbeats 400000 in
theorem pick_any (c : Int) (w : World) (h1 : -9223372036854775808 ≤ c) (h2 : c ≤ 9223372036854775807) :
    Calls Tryz.prog 16 #[.int .i64 c, .int .i64 1099511627776] w fun e w' => e = .returned (.int .i64 (pickN c)) ∧ w' = w := by
  by_cases h : c < 0
  · have e : Hid ((pickN c : Int) = (-(c + 1)) % 1099511627776) := by
      show (pickN c : Int) = _
      unfold pickN; rw [if_pos h]; omega
    go_enter Tryz.func16, Tryz.ntmps16
    go_wp2
    go_ret
    exact ⟨ret_int (by rw [e.out, ← Int.neg_tmod, Int.tmod_eq_emod_of_nonneg (by omega)]), rfl⟩
  · have e : Hid ((pickN c : Int) = c % 1099511627776) := by
      show (pickN c : Int) = _
      unfold pickN; rw [if_neg h]; omega
    go_enter Tryz.func16, Tryz.ntmps16
    go_wp2
    go_ret
    exact ⟨ret_int (by rw [e.out]), rfl⟩
theorem pickN_lt (c : Int) : pickN c < 1099511627776 := by
  unfold pickN; omega
/-- The cells of a list of strings. -/
def strs (l : List (List UInt8)) : Array Value := (l.map fun s => Value.string ⟨s.toArray⟩).toArray
set_option maxHeartbeats 400000 in
theorem voc_any (w : World) :
    Calls Tryz.prog 105 #[] w fun e w' => e = .returned (.slice (some ⟨w.heap.size, 0, none⟩) 10 10) ∧ w' = w.alloc (.cells (strs vocL) 9) := by
  go_enter Tryz.func105, Tryz.ntmps105
  go_wp2
  go_ret
  exact ⟨rfl, rfl⟩
theorem one_byte (w : World) (x : Int) (c : UInt8) (hx : (c.toNat : Int) = x) : Lib.Bytes (w.alloc (.cells #[.int .u8 x] 5)) w.heap.size 0 ⟨#[c]⟩ := by
  intro i hi
  have hz : (ByteArray.mk #[c]).size = 1 := rfl
  have : i = 0 := by omega
  subst this
  rw [World.cell?_alloc_at _ _ _ _ rfl, ← hx]; rfl
theorem conv_one (x : Int) (c : UInt8) (hx : (c.toNat : Int) = x) (w : World) :
    (convert 42 9 (.slice (some ⟨w.heap.size, 0, none⟩) 1 1)).run Tryz.prog (w.alloc (.cells #[.int .u8 x] 5)) = .ok (.string ⟨#[c]⟩) (w.alloc (.cells #[.int .u8 x] 5)) :=
  Lib.run_convert_whole (P := Tryz.prog) _ 42 5 9 Tryz.underlying42 Tryz.underlying5 Tryz.underlying9 w.heap.size 0 ⟨#[c]⟩ (one_byte w x c hx) 1
theorem mk_snoc (l : List UInt8) (d : UInt8) : (ByteArray.mk l.toArray ++ ByteArray.mk #[d]) = ByteArray.mk (l ++ [d]).toArray := Go.ByteArray.mk_append_mk l [d]
theorem val_str {a b : ByteArray} (h : a = b) : Value.string a = Value.string b := by rw [h]
theorem shown_step (s : ByteArray) (how k : Nat) (h : k < s.size) (d : UInt8) (hd : d = shB s[k] (how + k)) :
    (ByteArray.mk (shownL how 0 (s.data.toList.take k)).toArray ++ ByteArray.mk #[d]) = ByteArray.mk (shownL how 0 (s.data.toList.take (k + 1))).toArray := by
  have hl : (s.data.toList.take k).length = k := by simp; omega
  rw [mk_snoc, take_snoc s k h, shownL_append, hl, hd]
  simp [shownL]
set_option maxHeartbeats 400000 in
set_option maxRecDepth 100000 in
theorem shown_any (s : ByteArray) (how : Nat) (w : World) (hl : s.size ≤ 100) (hh : how ≤ 1099511627776) :
    Calls Tryz.prog 106 #[.string s, .int .i64 how] w fun e w' => e = .returned (.string ⟨(shownL how 0 s.data.toList).toArray⟩) ∧ Below w.heap.size w w' := by
  go_enter Tryz.func106, Tryz.ntmps106
  go_wp2_with fail
  go_loopw [5, 6] (fun o i wr => ∃ k : Nat, k ≤ s.size ∧ i = .int .i64 k ∧ o = .string ⟨(shownL how 0 (s.data.toList.take k)).toArray⟩ ∧ Below w.heap.size w wr) (fun _ i _ => s.size - (intOf i).toNat)
  case atStart => exact ⟨0, Nat.zero_le _, rfl, rfl, Below.refl _ _⟩
  case round =>
    obtain ⟨k, h1, rfl, rfl, hb⟩ := hrel
    have hsz : (shownL how 0 (List.take k s.data.toList)).length ≤ 100 := by rw [len_shown]; simp; omega
    have hbz := hb.size
    by_cases hlt : k < s.size
    · obtain ⟨d, hd⟩ : ∃ d, d = shB s[k] (how + k) := ⟨_, rfl⟩
      have HS := hide (shown_step s how k hlt d hd)
      by_cases h2 : (97 : Int) ≤ (s[k].toNat : Int)
      · by_cases h3 : (s[k].toNat : Int) ≤ 122
        · by_cases h4 : (how + k) % 3 = 0
          · have h5 : (((how : Int) + (k : Int)) % 3 == 0) = true := by rw [beq_iff_eq]; omega
            have hdx : (d.toNat : Int) = (s[k].toNat : Int) - 97 + 65 := by
              rw [hd]; unfold shB; rw [if_pos (by omega), UInt8.toNat_ofNat']; omega
            have hcv := conv_one _ d hdx
            clear hd hdx h4
            go_wp2_with fail
            go_roundw
            case rel => exact ⟨k + 1, by omega, by go_num, val_str HS.out, hb.alloc hbz _⟩
            case measure => simp [intOf]; omega
          · have h5 : (((how : Int) + (k : Int)) % 3 == 0) = false := by rw [beq_eq_false_iff_ne]; omega
            have hdx : (d.toNat : Int) = (s[k].toNat : Int) := by
              rw [hd]; unfold shB; rw [if_neg (by omega)]
            have hcv := conv_one _ d hdx
            clear hd hdx h4
            go_wp2_with fail
            go_roundw
            case rel => exact ⟨k + 1, by omega, by go_num, val_str HS.out, hb.alloc hbz _⟩
            case measure => simp [intOf]; omega
        · have hdx : (d.toNat : Int) = (s[k].toNat : Int) := by
            rw [hd]; unfold shB; rw [if_neg (by omega)]
          have hcv := conv_one _ d hdx
          clear hd hdx
          go_wp2_with fail
          go_roundw
          case rel => exact ⟨k + 1, by omega, by go_num, val_str HS.out, hb.alloc hbz _⟩
          case measure => simp [intOf]; omega
      · have hdx : (d.toNat : Int) = (s[k].toNat : Int) := by
          rw [hd]; unfold shB; rw [if_neg (by omega)]
        have hcv := conv_one _ d hdx
        clear hd hdx
        go_wp2_with fail
        go_roundw
        case rel => exact ⟨k + 1, by omega, by go_num, val_str HS.out, hb.alloc hbz _⟩
        case measure => simp [intOf]; omega
    · have hfin : Hid (s.data.toList.take k = s.data.toList) := List.take_of_length_le (by simp; omega)
      go_wp2_with fail
      go_ret
      exact ⟨ret_str (by rw [hfin.out]), hb⟩
theorem shown_int (s : ByteArray) (h : Int) (w : World) (hl : s.size ≤ 100) (h0 : 0 ≤ h) (hh : h ≤ 1099511627776) :
    Calls Tryz.prog 106 #[.string s, .int .i64 h] w fun e w' => e = .returned (.string ⟨(shownL h.toNat 0 s.data.toList).toArray⟩) ∧ Below w.heap.size w w' := by
  obtain ⟨n, rfl⟩ := Int.eq_ofNat_of_zero_le h0
  exact shown_any s n w hl (by omega)
end Go.Proofs.YtnffagpdnklnkaaGreatDoor.Mad
