import Derived.Test.YtnffagpdnklnkaaGreatDoorV02
import Derived.Test.YtnffagpdnklnkaaGreatDoorV01
import Derived.Maps.OwnSet
import Derived.DeepKeys4
import Derived.Deep.RegionHeld3
set_option linter.unusedVariables false
set_option linter.unusedSimpArgs false
set_option maxRecDepth 8000
namespace Go.Proofs.YtnffagpdnklnkaaGreatDoor.Pak
open Go.RowKit Go.Proofs.YtnffagpdnklnkaaGreatDoor Go.Proofs.YtnffagpdnklnkaaGreatDoor.Spl SiftM
def textF (st : Option (List UInt8)) (n : Nat) : List UInt8 × Option (List UInt8) :=
  match st with
  | none => ([], none)
  | some l => if l.length < n then ([], none) else (l.take n, some (l.drop n))

theorem conv_vw (w : World) (B : Nat) (a : Option Addr) (l : List UInt8) (h : Vw w B a l) (cap : Nat) :
    (convert 42 9 (.slice a l.length cap)).run Tryz.prog w = .ok (.string ⟨l.toArray⟩) w := by
  rcases h with ⟨rfl, rfl⟩ | ⟨g, off, rfl, hg, hc⟩
  · exact run_convert_bytes_nil (P := Tryz.prog) w 42 5 Tryz.underlying42 Tryz.underlying5 0 cap 9 Tryz.underlying9
  · have hb : Lib.Bytes w g off ⟨l.toArray⟩ := by
      intro i hi
      have hi' : i < l.length := by
        have h2 : i < l.toArray.size := hi
        simpa using h2
      rw [hc i hi']
      rfl
    exact Lib.run_convert_whole (P := Tryz.prog) w 42 5 9 Tryz.underlying42 Tryz.underlying5 Tryz.underlying9 g off ⟨l.toArray⟩ hb cap

set_option maxHeartbeats 400000 in
set_option maxRecDepth 100000 in
theorem text_rd (R B : Nat) (st : Option (List UInt8)) (n : Nat) (w : World) (h : Rd w R B st) (hn : n ≤ 2000000) :
    Calls Tryz.prog 98 #[.pointer (some ⟨R, 0, none⟩), .int .i64 n] w fun e w' => e = .returned (.string ⟨(textF st n).1.toArray⟩) ∧ Rd w' R B (textF st n).2 ∧ Kp [R] w w' := by
  match st, h with
  | none, h =>
    have hB := h.1
    obtain ⟨c0, c1, f0, f1⟩ := rd_cells h.2
    have H := hide h.2
    have HH := hide h
    clear h
    show Calls _ _ _ _ fun e w' => e = .returned (.string ⟨([] : List UInt8).toArray⟩) ∧ Rd w' R B none ∧ Kp [R] w w'
    by_cases h0 : 0 < n
    · go_enter Tryz.func98, Tryz.ntmps98
      go_wp2_with fail
      refine (fail_any R B hB _ _ w H.out).mono ?_
      rintro e w1 ⟨rfl, hr1, hk1⟩
      have HR1 := hide hr1
      clear hr1
      go_wp2_with fail
      go_ret
      exact ⟨rfl, HR1.out, hk1⟩
    · have : n = 0 := by omega
      subst this
      have hcv : ∀ w', (convert 42 9 (.slice none 0 0)).run Tryz.prog w' = .ok (.string ⟨#[]⟩) w' := fun w' => run_convert_bytes_nil (P := Tryz.prog) w' 42 5 Tryz.underlying42 Tryz.underlying5 0 0 9 Tryz.underlying9
      go_enter Tryz.func98, Tryz.ntmps98
      go_wp2_with fail
      go_ret
      refine ⟨rfl, ⟨hB, ?_⟩, (Kp.refl _ _).setCell (.inl (by simp)) _⟩
      have e1 := heap_setCell_same w R 0 _ 164 (.slice none 0 0) H.out
      rw [e1]; rfl
  | some l, h =>
    obtain ⟨hB, a, cap, hb, hv, hc1, hc2⟩ := h
    obtain ⟨c0, c1, f0, f1⟩ := rd_cells hb
    have H := hide hb
    have HV := hide hv
    clear hb hv
    by_cases hlt : l.length < n
    · have e : textF (some l) n = ([], none) := by simp [textF, hlt]
      rw [e]
      clear e
      go_enter Tryz.func98, Tryz.ntmps98
      go_wp2_with fail
      refine (fail_any R B hB _ _ w H.out).mono ?_
      rintro e w1 ⟨rfl, hr1, hk1⟩
      have HR1 := hide hr1
      clear hr1
      go_wp2_with fail
      go_ret
      exact ⟨rfl, HR1.out, hk1⟩
    · have e : textF (some l) n = (l.take n, some (l.drop n)) := by simp [textF, hlt]
      rw [e]
      clear e
      have hcv : (convert 42 9 (.slice a n cap)).run Tryz.prog w = .ok (.string ⟨(l.take n).toArray⟩) w := by
        have hv' : Vw w B a (l.take n) := by
          rcases HV.out with ⟨rfl, ha⟩ | ⟨g, off, ha, hg, hc⟩
          · exact .inl ⟨by simp, ha⟩
          · exact .inr ⟨g, off, ha, hg, fun j hj => by
              have hj' : j < l.length := by simp at hj; omega
              rw [hc j hj']; simp⟩
        have := conv_vw w B a (l.take n) hv' cap
        rw [List.length_take, Nat.min_eq_left (by omega)] at this
        exact this
      obtain ⟨m, hm⟩ : ∃ m, l.length = m := ⟨_, rfl⟩
      have Hm := hide hm
      rw [hm] at c0 hc1 hlt
      clear hm
      rcases HV.out with ⟨rfl, rfl⟩ | ⟨g, off, rfl, hg, hc⟩
      · have e0 : m = 0 := by have := Hm.out; simp at this; omega
        have e1 : n = 0 := by omega
        subst e0 e1
        go_enter Tryz.func98, Tryz.ntmps98
        go_wp2_with fail
        go_ret
        refine ⟨rfl, rd_put hB H.out rfl (.inl ⟨rfl, rfl⟩) (by simp) hc2, (Kp.refl _ _).setCell (.inl (by simp)) _⟩
      · have HC := hide hc
        clear hc
        go_enter Tryz.func98, Tryz.ntmps98
        go_wp2_with fail
        · go_ret
          have hl : l.length ≤ n := by have := Hm.out; omega
          refine ⟨rfl, rd_put hB H.out (by have := Hm.out; simp; omega) (.inr ⟨g, off, rfl, hg, fun j hj => by simp at hj; omega⟩) (by simp; omega) (by omega), (Kp.refl _ _).setCell (.inl (by simp)) _⟩
        · go_ret
          refine ⟨rfl, rd_put hB H.out (by have := Hm.out; simp; omega) (.inr ⟨g, off + n, rfl, hg, fun j hj => ?_⟩) (by have := Hm.out; simp; omega) (by omega), (Kp.refl _ _).setCell (.inl (by simp)) _⟩
          have hj' : n + j < l.length := by simp at hj; omega
          have := HC.out (n + j) hj'
          rw [← Nat.add_assoc] at this
          simpa using this
end Go.Proofs.YtnffagpdnklnkaaGreatDoor.Pak
namespace Go.Proofs.YtnffagpdnklnkaaGreatDoor.Pak
open Go.RowKit Go.Proofs.YtnffagpdnklnkaaGreatDoor Go.Proofs.YtnffagpdnklnkaaGreatDoor.Spl SiftM Go.Maps
theorem laidOut : laidOutB Tryz.prog = true := by kernel_rfl
theorem row95 : (234 : TypeId) < Tryz.prog.types.size := of_decide_eq_true (by kernel_rfl)
theorem deep95 : Tryz.prog.keyTypeAt 2 234 = true := by kernel_rfl
theorem wide95 : (match Tryz.prog.underlying 234 with | some (.array _ _) | some (.struct _) => true | _ => false) = true := by kernel_rfl
set_option maxRecDepth 100000 in
theorem spotK : Keyed Tryz.prog 234 := Keyed.of_law (deep_law_laid laidOut (m := 2) (by omega) row95 deep95 wide95)
def key (d p : Nat) : Lit := .string (keyBytes [.int .i64 (d : Int), .int .i64 (p : Int)])
theorem keyT95 : Tryz.prog.keyType 234 = true := by kernel_rfl
theorem types_size : ∃ m, Tryz.prog.types.size + 1 = m + 2 := ⟨Tryz.prog.types.size - 1, by have h : 234 < Tryz.prog.types.size := row95; omega⟩
theorem cells95 : Tryz.prog.cellsOf 234 = 2 := by kernel_rfl
theorem cells3 : Tryz.prog.cellsOf 3 = 1 := by kernel_rfl
theorem wf64 (n : Nat) (h : n ≤ 1099511627776) : (Lit.int .i64 (n : Int)).wf = true := WalkArith.wf_i64 (by omega)

theorem lits_spot (m d p : Nat) (hd : d ≤ 1099511627776) (hp : p ≤ 1099511627776) : Tryz.prog.keyLits (m + 2) 234 [.int .i64 (d : Int), .int .i64 (p : Int)] = some [.int .i64 (d : Int), .int .i64 (p : Int)] := by
  unfold Program.keyLits
  simp only [Tryz.underlying234]
  rw [if_pos ⟨by rw [cells95]; rfl, by simp⟩]
  simp [cells3, Program.keyLits, Tryz.underlying3, wf64 d hd, wf64 p hp]
theorem keyOf_spot (d p : Nat) (hd : d ≤ 1099511627776) (hp : p ≤ 1099511627776) : keyOf Tryz.prog 234 (.agg #[.int .i64 (d : Int), .int .i64 (p : Int)]) = some (key d p) := by
  obtain ⟨m, hm⟩ := types_size
  unfold keyOf
  simp only [Tryz.underlying234]
  rw [if_pos (by simp [keyT95, Value.formed, Tryz.underlying234, cells95]), hm]
  have := lits_spot m d p hd hp
  simp only [Value.cells]
  rw [this]
  rfl
theorem key_inj {d p d' p' : Nat} (hd : d ≤ 1099511627776) (hp : p ≤ 1099511627776) (hd' : d' ≤ 1099511627776) (hp' : p' ≤ 1099511627776) (h : key d p = key d' p') : d = d' ∧ p = p' := by
  have e : keyBytes [.int .i64 (d : Int), .int .i64 (p : Int)] = keyBytes [.int .i64 (d' : Int), .int .i64 (p' : Int)] := by
    have := h; unfold key at this; simpa using this
  have h2 := keyLits_inj (lits_spot 0 d p hd hp) (lits_spot 0 d' p' hd' hp') e
  simp at h2
  omega

/-- Block M is a map of c entries that says f. -/
def MapIs (w : World) (M c : Nat) (f : Nat → Nat → Option Nat) : Prop :=
  ∃ D : DataW Unit, w.ownsMap Tryz.prog 234 (plainElem Tryz.prog 3) M c D ∧ Maps.size D = c ∧
    (∀ d p, d ≤ 1099511627776 → p ≤ 1099511627776 → Maps.has D (key d p) = (f d p).isSome) ∧
    ∀ d p, d ≤ 1099511627776 → p ≤ 1099511627776 → ∀ v, f d p = some v → D.atKey (key d p) (.lit (.int .i64 0)) = .lit (.int .i64 (v : Int))
theorem MapIs.lt {w : World} {M c : Nat} {f : Nat → Nat → Option Nat} (h : MapIs w M c f) : M < w.heap.size := by
  obtain ⟨D, h1, _⟩ := h; exact h1.lt
theorem MapIs.block {w : World} {M c : Nat} {f : Nat → Nat → Option Nat} (h : MapIs w M c f) : ∃ es clock, w.heap[M]? = some (.map es clock) := by
  obtain ⟨D, ⟨es, clock, h1, _⟩, _⟩ := h; exact ⟨es, clock, h1⟩
theorem MapIs.kp {S : List Nat} {w w' : World} {M c : Nat} {f : Nat → Nat → Option Nat} (h : MapIs w M c f) (k : Kp S w w') (hM : M ∉ S) : MapIs w' M c f := by
  obtain ⟨D, ⟨es, clock, h1, h2⟩, h3⟩ := h
  exact ⟨D, ⟨es, clock, k.heap h1 hM, h2⟩, h3⟩
theorem MapIs.kb {t : TypeId} {S : List Nat} {base : Nat} {w w' : World} {M c : Nat} {f : Nat → Nat → Option Nat} (h : MapIs w M c f) (k : Kb t S base w w') (hM : M ∉ S) : MapIs w' M c f := by
  obtain ⟨D, ⟨es, clock, h1, h2⟩, h3⟩ := h
  exact ⟨D, ⟨es, clock, k.block M _ hM h1 (.inr (fun cs fr e => by simp at e)), h2⟩, h3⟩
theorem mapIs_made (w : World) : MapIs (w.alloc (.map #[] 0)) w.heap.size 0 fun _ _ => none := by
  refine ⟨.map [], World.ownsMap_made _ _ _ _, rfl, fun d p _ _ => rfl, fun d p _ _ v hv => by simp at hv⟩

def putAt (f : Nat → Nat → Option Nat) (d p v : Nat) : Nat → Nat → Option Nat := fun d' p' => if d' = d ∧ p' = p then some v else f d' p'

theorem keylit (d p : Nat) : WideAt.IsKeyLit (key d p) := trivial
theorem zero3 (w : World) : (zeroValue 3).run Tryz.prog w = .ok (.int .i64 0) w := by kernel_rfl

theorem owns_size {w : World} {M n : Nat} {D : DataW Unit} (h : w.ownsMap Tryz.prog 234 (plainElem Tryz.prog 3) M n D) : w.ownsMap Tryz.prog 234 (plainElem Tryz.prog 3) M (Maps.size D) D := by
  obtain ⟨es, clock, h1, h2, h3, rfl⟩ := h
  exact ⟨es, clock, h1, h2, by simp [Maps.size, length_sorted], rfl⟩

theorem MapIs.look {w : World} {M c : Nat} {f : Nat → Nat → Option Nat} (h : MapIs w M c f) (d p : Nat) (hd : d ≤ 1099511627776) (hp : p ≤ 1099511627776) :
    ∃ x : Int, (Instr.lookup 103 (.map (some M)) (.agg #[.int .i64 (d : Int), .int .i64 (p : Int)]) true).run Tryz.prog w = .ok (.tuple #[.int .i64 x, .bool (f d p).isSome]) w ∧ ∀ v, f d p = some v → x = (v : Int) := by
  obtain ⟨D, hown, hsz, hhas, hat⟩ := h
  obtain ⟨v, ps, hrun, hv⟩ := hown.look_ok spotK Tryz.underlying103 (zero3 w) (plainElem_int Tryz.underlying3 (by decide)) (keyOf_spot d p hd hp)
  obtain ⟨x, rfl, hx, _⟩ := plainElem_int_inv Tryz.underlying3 hv
  rw [hhas d p hd hp] at hrun
  refine ⟨x, hrun, fun v hv => ?_⟩
  have h2 := hat d p hd hp v hv
  simp only [Prod.mk.injEq] at hx
  rw [h2] at hx
  simpa using hx.1.symm

theorem MapIs.store {w : World} {M c : Nat} {f : Nat → Nat → Option Nat} (h : MapIs w M c f) (hc : c ≤ 1000000000) (d p v : Nat) (hd : d ≤ 1099511627776) (hp : p ≤ 1099511627776) (hv : v ≤ 1099511627776) :
    ∃ w', (Instr.mapUpdate 103 (.map (some M)) (.agg #[.int .i64 (d : Int), .int .i64 (p : Int)]) (.int .i64 (v : Int))).run Tryz.prog w = .ok () w' ∧ MapIs w' M (if (f d p).isSome then c else c + 1) (putAt f d p v) ∧ Kp [M] w w' := by
  obtain ⟨D, hown, hsz, hhas, hat⟩ := h
  obtain ⟨w', hrun, h1, h2⟩ := hown.update spotK Tryz.underlying103 (by unfold maxLen; omega) (keyOf_spot d p hd hp) (plainElem_int Tryz.underlying3 (wf64 v hv))
  refine ⟨w', hrun, ⟨D.put (key d p) (.lit (.int .i64 (v : Int))), ?_, ?_, ?_, ?_⟩, (Kp.refl [M] w).grown h2 (fun k hk => by simp at hk; left; simp [hk])⟩
  · have := owns_size h1
    rw [Maps.size_put (hown.tidy spotK), hhas d p hd hp, hsz] at this
    exact this
  · rw [Maps.size_put (hown.tidy spotK), hhas d p hd hp, hsz]
  · intro d' p' hd' hp'
    unfold putAt
    by_cases e : d' = d ∧ p' = p
    · obtain ⟨rfl, rfl⟩ := e
      rw [Maps.has_put_same hown.isMap (keylit _ _)]
      simp
    · rw [Maps.has_put_other (fun h => e (key_inj hd' hp' hd hp h)), hhas d' p' hd' hp', if_neg e]
  · intro d' p' hd' hp' x hx
    unfold putAt at hx
    by_cases e : d' = d ∧ p' = p
    · obtain ⟨rfl, rfl⟩ := e
      rw [if_pos ⟨rfl, rfl⟩] at hx
      simp at hx
      subst hx
      exact Maps.atKey_put_same hown.isMap (keylit _ _) _ _
    · rw [if_neg e] at hx
      rw [Maps.atKey_put_other (fun h => e (key_inj hd' hp' hd hp h))]
      exact hat d' p' hd' hp' x hx
theorem MapIs.len {w : World} {M c : Nat} {f : Nat → Nat → Option Nat} (h : MapIs w M c f) (ty : TypeId) : (Builtin.len_ #[103] ty #[.map (some M)]).run Tryz.prog w = .ok (.int .i64 (c : Int)) w := by
  obtain ⟨D, hown, hsz, hhas, hat⟩ := h
  rw [hown.len Tryz.underlying103 ty, hsz]
end Go.Proofs.YtnffagpdnklnkaaGreatDoor.Pak
namespace Go.Proofs.YtnffagpdnklnkaaGreatDoor.Pak
open Go.RowKit Go.Proofs.YtnffagpdnklnkaaGreatDoor Go.Proofs.YtnffagpdnklnkaaGreatDoor.Spl SiftM
def isWord (l : List UInt8) : Bool := decide (1 ≤ l.length) && decide (l.length ≤ 8) && l.all isSm

set_option maxHeartbeats 800000 in
set_option maxRecDepth 100000 in
theorem is_any (s : ByteArray) (w : World) (hs : s.size ≤ 2000000) :
    Calls Tryz.prog 143 #[.string s] w fun e w' => e = .returned (.bool (isWord s.data.toList)) ∧ w' = w := by
  have hsz : s.data.toList.length = s.size := by simp
  by_cases h1 : s.size < 1
  · have e : Hid (isWord s.data.toList = false) := by
      show _ = _; unfold isWord; rw [hsz]; simp; omega
    generalize isWord s.data.toList = r at *
    go_enter Tryz.func143, Tryz.ntmps143
    go_wp2_with fail
    go_ret
    exact ⟨ret_bool e.out.symm, rfl⟩
  · by_cases h2 : 8 < s.size
    · have e : Hid (isWord s.data.toList = false) := by
        show _ = _; unfold isWord; rw [hsz]; simp; omega
      generalize isWord s.data.toList = r at *
      go_enter Tryz.func143, Tryz.ntmps143
      go_wp2_with fail
      go_ret
      exact ⟨ret_bool e.out.symm, rfl⟩
    · have e : Hid (isWord s.data.toList = s.data.toList.all isSm) := by
        show _ = _; unfold isWord; rw [hsz]; simp; omega
      generalize isWord s.data.toList = r at *
      go_enter Tryz.func143, Tryz.ntmps143
      go_wp2_with fail
      go_loopw [14] (fun iv wr => ∃ k : Nat, k ≤ s.size ∧ iv = .int .i64 k ∧ (s.data.toList.take k).all isSm = true ∧ wr = w) (fun iv _ => s.size - (intOf iv).toNat)
      case atStart => exact ⟨0, by omega, rfl, by simp, rfl⟩
      case round =>
        obtain ⟨k, hk, rfl, ht, rfl⟩ := hrel
        by_cases hlt : k < s.size
        · have htk := hide (take_snoc s k hlt)
          have Ht := hide ht
          clear ht
          by_cases hsm : isSm s[k] = true
          · have hN := small_any s[k] wr
            rw [hsm] at hN
            have HN := hide hN
            have Hsm := hide hsm
            clear hN hsm
            go_wp2_with fail
            refine HN.out.mono ?_
            rintro e w1 ⟨rfl, rfl⟩
            go_wp2_with fail
            go_roundw
            case rel =>
              refine ⟨k + 1, by omega, by go_num, ?_, by trivial⟩
              rw [htk.out, List.all_append, Ht.out]; simp [Hsm.out]
            case measure => simp [intOf]; omega
          · have hsm' : isSm s[k] = false := by simpa using hsm
            have hN := small_any s[k] wr
            rw [hsm'] at hN
            have HN := hide hN
            have Hsm := hide hsm'
            clear hN hsm hsm'
            go_wp2_with fail
            refine HN.out.mono ?_
            rintro e w1 ⟨rfl, rfl⟩
            go_wp2_with fail
            go_ret
            refine ⟨ret_bool ?_, by trivial⟩
            rw [e.out]
            symm
            rw [List.all_eq_false]
            exact ⟨s[k], List.mem_of_mem_take (i := k + 1) (by rw [htk.out]; simp), by simp [Hsm.out]⟩
        · have ek : k = s.size := by omega
          subst ek
          have Ht := hide ht
          clear ht
          go_wp2_with fail
          go_ret
          refine ⟨ret_bool ?_, by trivial⟩
          rw [e.out]
          have := Ht.out
          rw [List.take_of_length_le (by rw [hsz]; omega)] at this
          exact this.symm
/-- The table in block T. -/
structure Tabl (w : World) (T B : Nat) (ids : List Nat) (terms : List (List UInt8)) (M c : Nat) (f : Nat → Nat → Option Nat) (iv tv : Value) : Prop where
  blk : w.heap[T]? = some (.cells #[iv, tv, .map (some M)] 105 (0, 0))
  ids : w.ownsRow B 3 1 iv ids.length (intV ids)
  terms : w.ownsRow B 9 1 tv terms.length (strV terms)
  map : MapIs w M c f
  leT : B ≤ T
  leM : B ≤ M
theorem tb_cells {w : World} {T : Nat} {x y z : Value} {t : TypeId} (h : w.heap[T]? = some (.cells #[x, y, z] t (0, 0))) :
    w.cell? ⟨T, 0, none⟩ = some x ∧ w.cell? ⟨T, 1, none⟩ = some y ∧ w.cell? ⟨T, 2, none⟩ = some z ∧ w.frozen? ⟨T, 0, none⟩ = false ∧ w.frozen? ⟨T, 1, none⟩ = false ∧ w.frozen? ⟨T, 2, none⟩ = false := by
  simp [World.cell?, World.frozen?, h]
theorem map_ne {w : World} {M T : Nat} {c : Nat} {f : Nat → Nat → Option Nat} {cs : Array Value} {t : TypeId} {fr : Nat × Nat} (h : MapIs w M c f) (hT : w.heap[T]? = some (.cells cs t fr)) : M ≠ T := by
  rintro rfl
  obtain ⟨es, cl, h1⟩ := h.block
  rw [hT] at h1; simp at h1
theorem owns_ne_map {w : World} {M c base n size : Nat} {f : Nat → Nat → Option Nat} {e : TypeId} {v : Value} {xs : List Value} (h : w.ownsRow base e size v n xs) (hM : MapIs w M c f) : v.ownBlock ≠ some M := by
  intro ee
  rcases h.2 with ⟨rfl, _⟩ | ⟨g, cap, cur, rfl, _, hh, _⟩
  · simp [Value.ownBlock] at ee
  · simp [Value.ownBlock] at ee
    subst ee
    exact map_ne hM hh rfl
/-- Whatever turns the map and blocks of other kinds alone keeps the rest of the table. -/
theorem Tabl.kp {S : List Nat} {w w' : World} {T B M c c' : Nat} {ids : List Nat} {terms : List (List UInt8)} {f f' : Nat → Nat → Option Nat} {iv tv : Value} (h : Tabl w T B ids terms M c f iv tv) (k : Kp S w w') (hm : MapIs w' M c' f') (hT : T ∉ S) (hi : ∀ x ∈ S, iv.ownBlock ≠ some x) (ht : ∀ x ∈ S, tv.ownBlock ≠ some x) : Tabl w' T B ids terms M c' f' iv tv :=
  ⟨k.heap h.blk hT, k.owns h.ids (fun g hg hx => hi g hx hg), k.owns h.terms (fun g hg hx => ht g hx hg), hm, h.leT, h.leM⟩

abbrev PS := Nat × (Nat → Nat → Option Nat) × Option (List UInt8)
def plStep (tix doc : Nat) (s : PS) (p : Nat) : PS := (if (s.2.1 doc p).isSome then s.1 else s.1 + 1, putAt s.2.1 doc p tix, if (s.2.1 doc p).isSome then none else s.2.2)
def placesF (tix doc : Nat) (c : Nat) (f : Nat → Nat → Option Nat) (st : Option (List UInt8)) : PS :=
  (riseN 59 (numF st 1 60).2 (numF st 1 60).1).1.foldl (plStep tix doc) (c, f, (riseN 59 (numF st 1 60).2 (numF st 1 60).1).2.2)
theorem numF_le (st : Option (List UInt8)) (lo : Int) (hi : Nat) : (numF st lo hi).1 ≤ hi := by
  unfold numF; split
  · exact Nat.zero_le _
  · rename_i h
    have h3 := (not_or.1 (not_or.1 h).2).2
    exact Int.ofNat_le.1 (Int.not_lt.1 h3)
set_option maxRecDepth 100000 in
theorem riseN_mem (most : Int) (st : Option (List UInt8)) (k : Nat) : ∀ p ∈ (riseN most st k).1, p < k * 268435456 := by
  induction k with
  | zero => intro p h; have h' : p ∈ ([] : List Nat) := h; simp at h'
  | succ k ih =>
    intro p h
    simp only [riseN, List.mem_append, List.mem_singleton] at h
    have h1 := riseN_le most st k
    have h2 := numF_lt (riseN most st k).2.2 0 (most - (riseN most st k).2.1)
    rcases h with h | h
    · exact Nat.lt_of_lt_of_le (ih p h) (Nat.mul_le_mul_right _ (Nat.le_succ k))
    · rw [h, Nat.succ_mul]; exact Nat.add_lt_add_of_le_of_lt h1 h2
theorem plStep_c (tix doc : Nat) (s : PS) : ∀ l : List Nat, (l.foldl (plStep tix doc) s).1 ≤ s.1 + l.length
  | [] => by simp
  | p :: r => by
    have h := plStep_c tix doc (plStep tix doc s p) r
    have : (plStep tix doc s p).1 ≤ s.1 + 1 := by unfold plStep; split <;> simp
    simp only [List.foldl_cons, List.length_cons]; omega

set_option maxHeartbeats 2000000 in
set_option maxRecDepth 100000 in
theorem places_rd (R B T M doc c : Nat) (ids : List Nat) (terms : List (List UInt8)) (f : Nat → Nat → Option Nat) (iv tv : Value) (st : Option (List UInt8)) (w : World) (h : Rd w R B st) (ht : Tabl w T B ids terms M c f iv tv) (h0 : 0 < terms.length) (h1 : terms.length ≤ 100000) (hc : c ≤ 500000000) (hd : doc ≤ 1099511627776) (hBw : B ≤ w.heap.size) :
    Calls Tryz.prog 145 #[.pointer (some ⟨R, 0, none⟩), .pointer (some ⟨T, 0, none⟩), .int .i64 doc] w fun e w' =>
      e = .returned (.tuple #[]) ∧ Rd w' R B (placesF (terms.length - 1) doc c f st).2.2 ∧ Tabl w' T B ids terms M (placesF (terms.length - 1) doc c f st).1 (placesF (terms.length - 1) doc c f st).2.1 iv tv ∧ Kp [R, M] w w' := by
  obtain ⟨x0, y0, hb⟩ := h.block
  have hRT : R ≠ T := by
    rintro rfl
    have := ht.blk; rw [hb] at this; simp at this
  have hMR := map_ne ht.map hb
  have hRw := heap_lt hb
  have hMw := ht.map.lt
  have hMT := map_ne ht.map ht.blk
  have hiR := owns_ne ht.ids hb (by decide)
  have htR := owns_ne ht.terms hb (by decide)
  have hiM := owns_ne_map ht.ids ht.map
  have htM := owns_ne_map ht.terms ht.map
  have hN := number_rd R B st 1 60 w h (by omega)
  have hn60 := numF_le st 1 60
  unfold placesF
  obtain ⟨n, s1, hn⟩ : ∃ n s1, numF st 1 60 = (n, s1) := ⟨_, _, rfl⟩
  rw [show ((60 : Nat) : Int) = 60 from rfl] at hn60
  rw [hn] at hN hn60 ⊢
  simp only at hN hn60 ⊢
  obtain ⟨l, le, s2, hl⟩ : ∃ l le s2, riseN 59 s1 n = (l, le, s2) := ⟨_, _, _, rfl⟩
  have hll := riseN_len 59 s1 n
  have hlm := riseN_mem 59 s1 n
  have hRi := fun w' (h' : Rd w' R B s1) (hB' : B ≤ w'.heap.size) => rising_rd R B s1 n 59 w' h' (by omega) (by omega) (by omega) hB'
  rw [hl] at hll hlm hRi ⊢
  simp only at hll hlm hRi ⊢
  obtain ⟨res, hres⟩ : ∃ res, l.foldl (plStep (terms.length - 1) doc) (c, f, s2) = res := ⟨_, rfl⟩
  rw [hres]
  have HRES := hide hres
  have HN := hide hN
  have HRI := hide hRi
  have HT := hide ht
  have HLM := hide hlm
  have HLL := hide hll
  clear hN hRi ht hlm hll hres hn hl h hb
  go_enter Tryz.func145, Tryz.ntmps145
  go_wp2_with fail
  refine HN.out.mono ?_
  rintro e w1 ⟨rfl, hr1, hk1⟩
  have HR1 := hide hr1
  have hsz1 := hk1.size
  clear hr1
  go_wp2_with fail
  refine (HRI.out w1 HR1.out (by omega)).mono ?_
  rintro e w2 ⟨v, rfl, hv2, hr2, hk2⟩
  obtain ⟨a, cap, rfl, ha⟩ := owns_forms hv2
  have hk12 : Kp [R] w w2 := hk1.next hk2
  have ht2 : Tabl w2 T B ids terms M c f iv tv := HT.out.kp hk12 (HT.out.map.kp hk12 (by simpa using hMR)) (by simpa using hRT.symm) (by simpa using hiR) (by simpa using htR)
  have hsz2 := hk2.size
  have HR2 := hide hr2
  have HT2 := hide ht2
  have HV2 := hide hv2
  clear hr2 ht2 hv2
  go_wp2_with fail
  go_loopw [18] (fun iv' wr => ∃ (k : Nat) (s : PS), k ≤ n ∧ iv' = .int .i64 k ∧ (l.take k).foldl (plStep (terms.length - 1) doc) (c, f, s2) = s ∧ Rd wr R B s.2.2 ∧ Tabl wr T B ids terms M s.1 s.2.1 iv tv ∧ wr.ownsRow w1.heap.size 3 1 (.slice a n cap) n (intV l) ∧ w1.heap.size ≤ wr.heap.size ∧ Kp [R, M] w wr) (fun iv' _ => n - (intOf iv').toNat)
  case atStart => exact ⟨0, _, by omega, rfl, rfl, HR2.out, HT2.out, HV2.out, hsz2, hk12.mono (by simp)⟩
  case round =>
    clear HR2 HT2 HV2 hk12 hsz2
    obtain ⟨k, s, hk, rfl, hs, hr, htb, hv, hsw, hkp⟩ := hrel
    by_cases hlt : k < n
    · obtain ⟨g, rfl⟩ := ha (by omega)
      have hkl : k < l.length := by rw [HLL.out]; exact hlt
      have hck := ints_cells hv HLL.out k hkl
      have hpk := HLM.out l[k] (List.getElem_mem hkl)
      have hstep := hide (show (l.take (k + 1)).foldl (plStep (terms.length - 1) doc) (c, f, s2) = plStep (terms.length - 1) doc s l[k] by rw [take_snocL l k hkl, List.foldl_append, hs]; rfl)
      have hcs := plStep_c (terms.length - 1) doc (c, f, s2) (l.take k)
      rw [hs] at hcs
      simp only [List.length_take] at hcs
      obtain ⟨p, hp⟩ : ∃ p, l[k] = p := ⟨_, rfl⟩
      rw [hp] at hck hpk hstep
      obtain ⟨c', f', s'⟩ := s
      simp only at hr htb hcs
      obtain ⟨b0, b1, b2, fz0, fz1, fz2⟩ := tb_cells htb.blk
      obtain ⟨at', capt, e1, e2⟩ := owns_forms htb.terms
      subst e1
      have HR := hide hr
      have HTB := hide htb
      have HV := hide hv
      have HSt := hide hs
      have hTw := heap_lt htb.blk
      clear hr htb hv hs hp HRES
      obtain ⟨W, hW⟩ : ∃ W, wr.alloc (.cells #[.int .i64 (doc : Int), .int .i64 (p : Int)] 234) = W := ⟨_, rfl⟩
      have kW : Kp [] wr W := by rw [← hW]; exact (Kp.refl _ _).alloc _
      have hmW : MapIs W.drew M c' f' := HTB.out.map.kp (S := []) (by rw [← hW]; exact ((Kp.refl _ _).alloc _).drewN 1) (by simp)
      obtain ⟨x, hlook, hx⟩ := hmW.look doc p hd (by omega)
      have hS1 : W.cell? ⟨T, 2, none⟩ = some (.map (some M)) := kW.cellv b2 (by simp)
      have hS4 : W.cell? ⟨T, 1, none⟩ = some (.slice at' terms.length capt) := kW.cellv b1 (by simp)
      have hsb : W.heap[wr.heap.size]? = some (.cells #[.int .i64 (doc : Int), .int .i64 (p : Int)] 234 (0, 0)) := by rw [← hW]; exact heap_alloc_new wr _
      obtain ⟨hS2, hS3, _, _⟩ := rd_cells hsb
      have HSB := hide hsb
      have hWsz : W.heap.size = wr.heap.size + 1 := by rw [← hW]; simp
      have HWsz := hide hWsz
      clear hsb hWsz
      have etix : ((terms.length - 1 : Nat) : Int) = (terms.length : Int) - 1 := by omega
      have Hetix := hide etix
      clear etix
      have hRT' := hRT
      by_cases hit : (f' doc p).isSome = true
      · rw [hit] at hlook
        have Hst2 : Hid (plStep (terms.length - 1) doc (c', f', s') p = (c', putAt f' doc p (terms.length - 1), none)) := by show _ = _; simp [plStep, hit]
        have Hhit := hide hit
        clear hit
        go_wp2_with fail
        clear hW
        go_region_held3 (fun w' => w'.cell? ⟨T, 2, none⟩ = some (.map (some M)) ∧ w'.cell? ⟨wr.heap.size, 0, none⟩ = some (.int .i64 (doc : Int)) ∧ w'.cell? ⟨wr.heap.size, 1, none⟩ = some (.int .i64 (p : Int))) (go_keep) (fail)
        have kWd : Kp [] wr W.drew := kW.drewN 1
        have hRW : Rd W.drew R B s' := HR.out.kp kWd (by simp) (by simp)
        obtain ⟨xr, yr, hbr⟩ := hRW.block
        have HBR := hide hbr
        have hBR := hRW.le
        clear hlook hRW hbr
        go_wp2_with fail
        refine (fail_any R B hBR _ _ W.drew HBR.out).mono ?_
        rintro e w3 ⟨rfl, hr3, hk3⟩
        have hTR : T ∉ [R] := by simpa using hRT.symm
        have hsR : wr.heap.size ∉ [R] := by
          have := HR.out; obtain ⟨_, _, hb⟩ := this.block; have := heap_lt hb; simp; omega
        have q1 : w3.cell? ⟨T, 2, none⟩ = some (.map (some M)) := hk3.cellv hS1 hTR
        have q2 : w3.cell? ⟨T, 1, none⟩ = some (.slice at' terms.length capt) := hk3.cellv hS4 hTR
        have q3 : w3.cell? ⟨wr.heap.size, 0, none⟩ = some (.int .i64 (doc : Int)) := hk3.cellv hS2 hsR
        have q4 : w3.cell? ⟨wr.heap.size, 1, none⟩ = some (.int .i64 (p : Int)) := hk3.cellv hS3 hsR
        have hm3 : MapIs w3.drew M c' f' := hmW.kp (S := [R]) (hk3.drewN 1) (by simpa using hMR)
        obtain ⟨w4, hst, hm4, hk4⟩ := hm3.store (by omega) doc p (terms.length - 1) hd (by omega) (by omega)
        rw [Hetix.out] at hst
        rw [Hhit.out] at hm4
        have hTM : T ∉ [M] := by simpa using hMT.symm
        have hsM : wr.heap.size ∉ [M] := by have := HTB.out.map.lt; simp; omega
        have r1 : w4.cell? ⟨T, 2, none⟩ = some (.map (some M)) := hk4.cellv q1 hTM
        have r2 : w4.cell? ⟨T, 1, none⟩ = some (.slice at' terms.length capt) := hk4.cellv q2 hTM
        have r3 : w4.cell? ⟨wr.heap.size, 0, none⟩ = some (.int .i64 (doc : Int)) := hk4.cellv q3 hsM
        have r4 : w4.cell? ⟨wr.heap.size, 1, none⟩ = some (.int .i64 (p : Int)) := hk4.cellv q4 hsM
        have HR3 := hide hr3
        have HM4 := hide hm4
        clear hS1 hS2 hS3 hS4 hm3 hr3 hm4
        have b0' : (0 : Int) ≤ (terms.length : Int) - 1 := by omega
        have b1' : IntKind.i64.wrap ((terms.length : Int) - 1) = (terms.length : Int) - 1 := IntWalk.i64_in _ ⟨by omega, by omega⟩
        go_wp2_with fail
        go_region_held3 (fun w' => w'.cell? ⟨T, 2, none⟩ = some (.map (some M)) ∧ w'.cell? ⟨T, 1, none⟩ = some (.slice at' terms.length capt) ∧ w'.cell? ⟨wr.heap.size, 0, none⟩ = some (.int .i64 (doc : Int)) ∧ w'.cell? ⟨wr.heap.size, 1, none⟩ = some (.int .i64 (p : Int))) (first | (exact ⟨r1, r2, r3, r4⟩) | go_keep) (fail)
        have k34 : Kp [R, M] wr w4 := ((kWd.mono (by simp)).next (hk3.mono (by simp))).trans (S' := [M]) ⟨hk4.os, hk4.tape, hk4.output, hk4.size, hk4.block⟩ (by simp)
        clear hst q1 q2 q3 q4 b0' b1' r1 r2 r3 r4
        go_wp2_with fail
        go_roundw
        case rel =>
          refine ⟨k + 1, _, by omega, by go_num, hstep.out, ?_, ?_, ?_, by have := k34.size; omega, hkp.next k34⟩
          · rw [Hst2.out]; exact HR3.out.kp (S := [M]) ⟨hk4.os, hk4.tape, hk4.output, hk4.size, hk4.block⟩ (by simpa using hMR.symm) (by simpa using HTB.out.leM)
          · rw [Hst2.out]
            exact HTB.out.kp k34 HM4.out (by simp [hRT.symm, hMT.symm]) (by simp [hiR, hiM]) (by simp [htR, htM])
          · refine k34.owns HV.out (fun g' hg' hx => ?_)
            have hgl := (HV.out.lt g' hg').1
            have hRl : R < w1.heap.size := by omega
            have hMl : M < w1.heap.size := by omega
            simp at hx; omega
        case measure => simp [intOf]; omega
      · have hit' : (f' doc p).isSome = false := by simpa using hit
        rw [hit'] at hlook
        have Hst2 : Hid (plStep (terms.length - 1) doc (c', f', s') p = (c' + 1, putAt f' doc p (terms.length - 1), s')) := by show _ = _; simp [plStep, hit']
        have Hhit := hide hit'
        clear hit hit'
        go_wp2_with fail
        clear hW
        go_region_held3 (fun w' => w'.cell? ⟨T, 2, none⟩ = some (.map (some M)) ∧ w'.cell? ⟨wr.heap.size, 0, none⟩ = some (.int .i64 (doc : Int)) ∧ w'.cell? ⟨wr.heap.size, 1, none⟩ = some (.int .i64 (p : Int))) (go_keep) (fail)
        obtain ⟨w3, hw3⟩ : ∃ w3, W.drew = w3 := ⟨_, rfl⟩
        have kWd : Kp [] wr w3 := by rw [← hw3]; exact kW.drewN 1
        have hR3 : Rd w3 R B s' := HR.out.kp kWd (by simp) (by simp)
        have q1 : w3.cell? ⟨T, 2, none⟩ = some (.map (some M)) := by rw [← hw3]; exact hS1
        have q2 : w3.cell? ⟨T, 1, none⟩ = some (.slice at' terms.length capt) := by rw [← hw3]; exact hS4
        have q3 : w3.cell? ⟨wr.heap.size, 0, none⟩ = some (.int .i64 (doc : Int)) := by rw [← hw3]; exact hS2
        have q4 : w3.cell? ⟨wr.heap.size, 1, none⟩ = some (.int .i64 (p : Int)) := by rw [← hw3]; exact hS3
        have hm3 : MapIs w3.drew M c' f' := by rw [hw3] at hmW; exact hmW.kp (S := []) ((Kp.refl _ _).drewN 1) (by simp)
        obtain ⟨w4, hst, hm4, hk4⟩ := hm3.store (by omega) doc p (terms.length - 1) hd (by omega) (by omega)
        rw [Hetix.out] at hst
        rw [Hhit.out] at hm4
        have hTM : T ∉ [M] := by simpa using hMT.symm
        have hsM : wr.heap.size ∉ [M] := by have := HTB.out.map.lt; simp; omega
        have r1 : w4.cell? ⟨T, 2, none⟩ = some (.map (some M)) := hk4.cellv q1 hTM
        have r2 : w4.cell? ⟨T, 1, none⟩ = some (.slice at' terms.length capt) := hk4.cellv q2 hTM
        have r3 : w4.cell? ⟨wr.heap.size, 0, none⟩ = some (.int .i64 (doc : Int)) := hk4.cellv q3 hsM
        have r4 : w4.cell? ⟨wr.heap.size, 1, none⟩ = some (.int .i64 (p : Int)) := hk4.cellv q4 hsM
        have HR3 := hide hR3
        have HM4 := hide hm4
        clear hS1 hS2 hS3 hS4 hm3 hR3 hm4 hlook
        have b0' : (0 : Int) ≤ (terms.length : Int) - 1 := by omega
        have b1' : IntKind.i64.wrap ((terms.length : Int) - 1) = (terms.length : Int) - 1 := IntWalk.i64_in _ ⟨by omega, by omega⟩
        rw [hw3]
        clear hw3 hmW
        go_wp2_with fail
        go_region_held3 (fun w' => w'.cell? ⟨T, 2, none⟩ = some (.map (some M)) ∧ w'.cell? ⟨T, 1, none⟩ = some (.slice at' terms.length capt) ∧ w'.cell? ⟨wr.heap.size, 0, none⟩ = some (.int .i64 (doc : Int)) ∧ w'.cell? ⟨wr.heap.size, 1, none⟩ = some (.int .i64 (p : Int))) (first | (exact ⟨r1, r2, r3, r4⟩) | go_keep) (fail)
        have k34 : Kp [R, M] wr w4 := (kWd.mono (by simp)).trans (S' := [M]) ⟨hk4.os, hk4.tape, hk4.output, hk4.size, hk4.block⟩ (by simp)
        clear hst q1 q2 q3 q4 b0' b1' r1 r2 r3 r4
        go_wp2_with fail
        go_roundw
        case rel =>
          refine ⟨k + 1, _, by omega, by go_num, hstep.out, ?_, ?_, ?_, by have := k34.size; omega, hkp.next k34⟩
          · rw [Hst2.out]; exact HR3.out.kp (S := [M]) ⟨hk4.os, hk4.tape, hk4.output, hk4.size, hk4.block⟩ (by simpa using hMR.symm) (by simpa using HTB.out.leM)
          · rw [Hst2.out]
            exact HTB.out.kp k34 HM4.out (by simp [hRT.symm, hMT.symm]) (by simp [hiR, hiM]) (by simp [htR, htM])
          · refine k34.owns HV.out (fun g' hg' hx => ?_)
            have hgl := (HV.out.lt g' hg').1
            have hRl : R < w1.heap.size := by omega
            have hMl : M < w1.heap.size := by omega
            simp at hx; omega
        case measure => simp [intOf]; omega
    · have ek : k = n := by omega
      subst ek
      have e2 : s = res := by
        rw [← hs, ← HRES.out, List.take_of_length_le (by rw [HLL.out]; omega)]
      subst e2
      have HR := hide hr
      have HTB := hide htb
      clear hr htb hv hs
      go_wp2_with fail
      go_end0
      exact ⟨rfl, HR.out, HTB.out, hkp⟩
end Go.Proofs.YtnffagpdnklnkaaGreatDoor.Pak
