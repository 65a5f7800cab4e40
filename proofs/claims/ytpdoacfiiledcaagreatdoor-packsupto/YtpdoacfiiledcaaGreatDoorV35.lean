import Derived.Test.YtpdoacfiiledcaaGreatDoorV32
import Derived.Test.YtpdoacfiiledcaaGreatDoorV28

set_option linter.unusedVariables false
set_option maxRecDepth 4000
namespace Go.Proofs.YtpdoacfiiledcaaGreatDoor.Pak
open Go.RowKit Go.Proofs.YtpdoacfiiledcaaGreatDoor Go.Proofs.YtpdoacfiiledcaaGreatDoor.Spl SiftM

/-- The careless reader in block C. -/
structure Cu (w : World) (C B : Nat) (a : Option Addr) (n cap : Nat) (F : List UInt8) (p : Nat) (b : Bool) : Prop where
  blk : w.heap[C]? = some (.cells #[.slice a n cap, .int .i64 (p : Int), .bool b] 394 (0, 0))
  vw : Vw w B a F
  le : B ≤ C
theorem Cu.kp {w w' : World} {C B n cap p : Nat} {a : Option Addr} {F : List UInt8} {b : Bool} {S : List Nat} (h : Cu w C B a n cap F p b) (k : Kp S w w') (hC : C ∉ S) (hS : ∀ x ∈ S, B ≤ x) : Cu w' C B a n cap F p b :=
  ⟨k.heap h.blk hC, vw_kp h.vw k hS, h.le⟩
theorem Cu.drew {w : World} {C B n cap p : Nat} {a : Option Addr} {F : List UInt8} {b : Bool} (h : Cu w C B a n cap F p b) : Cu w.drew C B a n cap F p b := h.kp ((Kp.refl [] w).drewN 1) (by simp) (by simp)
theorem Cu.cells {w : World} {C B n cap p : Nat} {a : Option Addr} {F : List UInt8} {b : Bool} (h : Cu w C B a n cap F p b) :
    w.cell? ⟨C, 0, none⟩ = some (.slice a n cap) ∧ w.cell? ⟨C, 1, none⟩ = some (.int .i64 (p : Int)) ∧ w.cell? ⟨C, 2, none⟩ = some (.bool b) ∧ w.frozen? ⟨C, 1, none⟩ = false ∧ w.frozen? ⟨C, 2, none⟩ = false := by
  obtain ⟨h0, h1, h2, _, f1, f2⟩ := tb_cells h.blk
  exact ⟨h0, h1, h2, f1, f2⟩
theorem Cu.move {w : World} {C B n cap p : Nat} {a : Option Addr} {F : List UInt8} {b : Bool} (h : Cu w C B a n cap F p b) (q : Nat) : Cu (w.setCell ⟨C, 1, none⟩ (.int .i64 (q : Int))) C B a n cap F q b := by
  refine ⟨?_, vw_kp h.vw ((Kp.refl [C] w).setCell (p := ⟨C, 1, none⟩) (.inl (by simp)) _) (by simpa using h.le), h.le⟩
  have e := heap_setCell_same w C 1 _ 394 (.int .i64 (q : Int)) h.blk
  rw [e]; rfl
theorem Cu.turn {w : World} {C B n cap p : Nat} {a : Option Addr} {F : List UInt8} {b : Bool} (h : Cu w C B a n cap F p b) : Cu (w.setCell ⟨C, 2, none⟩ (.bool true)) C B a n cap F p true := by
  refine ⟨?_, vw_kp h.vw ((Kp.refl [C] w).setCell (p := ⟨C, 2, none⟩) (.inl (by simp)) _) (by simpa using h.le), h.le⟩
  have e := heap_setCell_same w C 2 _ 394 (.bool true) h.blk
  rw [e]; rfl

theorem drop_step (F : List UInt8) (p : Nat) (h : p < F.length) : F.drop p = F[p] :: F.drop (p + 1) := List.drop_eq_getElem_cons h

theorem wrap_two (m z : Nat) (h1 : m ≤ 1000000000) (h2 : z ≤ 34091302912) : wrap64 ((m : Int) + (z : Int)) = ((m + z : Nat) : Int) := by
  rw [IntWalk.wrap64_in _ ⟨by omega, by omega⟩]; simp
theorem wrap_mul (y M z : Nat) (h : y % 128 * M = z) (hz : z ≤ 34091302912) : wrap64 ((y : Int) % 128 * (M : Int)) = (z : Int) := by
  have e : (y : Int) % 128 * (M : Int) = (z : Int) := by rw [← h]; simp
  rw [e]; exact IntWalk.wrap64_in _ ⟨by omega, by omega⟩
/-- What a call of number leaves. -/
def NumPost (C B n cap : Nat) (a : Option Addr) (F : List UInt8) (p : Nat) (b : Bool) (w : World) (e : Ending) (w' : World) : Prop :=
  ∃ p' : Nat, e = .returned (.int .i64 ((rnum (F.drop p) b).1 : Nat)) ∧ Cu w' C B a n cap F p' (rnum (F.drop p) b).2.2 ∧ F.drop p' = (rnum (F.drop p) b).2.1 ∧ p ≤ p' ∧ (p' ≤ F.length ∨ p' = p) ∧ (p < p' ∨ (rnum (F.drop p) b).2.2 = true) ∧ Kp [C] w w'

set_option maxHeartbeats 1000000 in
set_option maxRecDepth 100000 in
theorem rnumber_any (C B n cap : Nat) (a : Option Addr) (F : List UInt8) (p0 : Nat) (b : Bool) (w : World) (h : Cu w C B a n cap F p0 b) (hn : F.length = n) (hn2 : n ≤ 4000000) (hp0 : p0 ≤ n + 1) :
    Calls Tryz.prog 296 #[.pointer (some ⟨C, 0, none⟩)] w (NumPost C B n cap a F p0 b w) := by
  have HC := hide h
  have Hn := hide hn
  clear h hn
  go_enter Tryz.func296, Tryz.ntmps296
  go_wp2_with fail
  go_loopw [3, 4, 5] (fun nv mv iv wr => ∃ (i m p : Nat), i ≤ 4 ∧ iv = .int .i64 i ∧ nv = .int .i64 m ∧ mv = .int .i64 ((128 ^ i : Nat) : Int) ∧ m < 128 ^ i ∧ rnumG (4 - i) i m (F.drop p) b = rnum (F.drop p0) b ∧ p0 ≤ p ∧ (p ≤ n ∨ p = p0) ∧ p ≤ n + 1 ∧ Cu wr C B a n cap F p b ∧ (0 < i → p0 < p) ∧ Kp [C] w wr) (fun _ _ iv _ => 4 - (intOf iv).toNat)
  case atStart => exact ⟨0, 0, p0, by omega, rfl, rfl, rfl, by simp, rfl, Nat.le_refl _, .inr rfl, hp0, HC.out, fun h => absurd h (by omega), Kp.refl _ _⟩
  case round =>
    clear HC
    obtain ⟨i, m, p, hi, rfl, rfl, rfl, hm, hr, hp1, hp2, hp3, hcu, hadv, hkp⟩ := hrel
    have hpw : 128 ^ i ≤ 268435456 := by
      have : 128 ^ i ≤ 128 ^ 4 := Nat.pow_le_pow_right (by omega) hi
      omega
    by_cases hlt : i < 4
    · obtain ⟨c0, c1, c2, f1, f2⟩ := hcu.cells
      obtain ⟨fu, hfu⟩ : ∃ fu, 4 - i = fu + 1 := ⟨4 - i - 1, by omega⟩
      rw [hfu] at hr
      by_cases hend : p < n
      · have hpF : p < F.length := by rw [Hn.out]; exact hend
        obtain ⟨g, off, rfl, hg, hc⟩ : ∃ g off, a = some ⟨g, off, none⟩ ∧ g < B ∧ ∀ j (h : j < F.length), wr.cell? ⟨g, off + j, none⟩ = some (.int .u8 (F[j].toNat : Int)) := by
          rcases hcu.vw with ⟨e, _⟩ | e
          · rw [e] at hpF; simp at hpF
          · exact e
        have hck := hc p hpF
        have hst := drop_step F p hpF
        have c256 : F[p].toNat < 256 := F[p].toNat_lt
        obtain ⟨x, hx⟩ : ∃ x, F[p] = x := ⟨_, rfl⟩
        rw [hx] at hck hst c256
        rw [hst] at hr
        obtain ⟨y, hy⟩ : ∃ y, x.toNat = y := ⟨_, rfl⟩
        have hun : rnumG (fu + 1) i m (x :: F.drop (p + 1)) b = if y < 128 then (m + y % 128 * 128 ^ i, F.drop (p + 1), b) else rnumG fu (i + 1) (m + y % 128 * 128 ^ i) (F.drop (p + 1)) b := by
          rw [← hy]; rfl
        rw [hun] at hr
        rw [hy] at hck c256
        have hcl := heap_lt hcu.blk
        have hBC := hcu.le
        have hgl : g < wr.heap.size := by omega
        have HCU := hide hcu
        have HR := hide hr
        obtain ⟨M, hM⟩ : ∃ M, 128 ^ i = M := ⟨_, rfl⟩
        rw [hM] at hpw hm
        have HM := hide hM
        have hMpos : 0 < M := by rw [← hM]; exact Nat.pow_pos (by omega)
        rw [hM]
        clear hc hst hx hy hun hcu hr hM
        obtain ⟨z, hz⟩ : ∃ z, y % 128 * M = z := ⟨_, rfl⟩
        have hzl : z ≤ 127 * M := by rw [← hz]; exact Nat.mul_le_mul_right M (by omega)
        have hzb : z ≤ 34091302912 := by omega
        have hm9 : m ≤ 1000000000 := by omega
        have hw1 := hide (wrap_mul y M z hz hzb)
        have hw2 := hide (wrap_two m z hm9 hzb)
        rw [HM.out, hz] at HR
        have Hz := hide hz
        clear hz
        have hsum : m + z < 128 * M := by omega
        have hpowS : Hid (128 ^ (i + 1) = 128 * M) := by
          show _ = _
          rw [Nat.pow_succ, HM.out, Nat.mul_comm]
        have hcuN : Hid (Cu (wr.setCell ⟨C, 1, none⟩ (.int .i64 ((p + 1 : Nat) : Int))) C B (some ⟨g, off, none⟩) n cap F (p + 1) b) := HCU.out.move (p + 1)
        by_cases hlow : y < 128
        · have hres : Hid (rnum (F.drop p0) b = (m + z, F.drop (p + 1), b)) := by
            show _ = _
            rw [← HR.out, if_pos hlow]
          go_wp2_with fail
          go_region
          go_wp2_with fail
          go_region
          go_wp2_with fail
          go_ret
          refine ⟨p + 1, ?_, ?_, ?_, by omega, .inl (by rw [Hn.out]; omega), .inl (by omega), ?_⟩
          · rw [hres.out]
            exact ret_int (by rw [hw1.out, hw2.out])
          · rw [hres.out]
            have := hcuN.out.drew.drew
            rw [show ((p + 1 : Nat) : Int) = (p : Int) + 1 by omega] at this
            exact this
          · rw [hres.out]
          · exact ((hkp.setCell (p := ⟨C, 1, none⟩) (.inl (by simp)) _).drewN 1).drewN 1
        · have hres : Hid (rnumG fu (i + 1) (m + z) (F.drop (p + 1)) b = rnum (F.drop p0) b) := by
            show _ = _
            rw [← HR.out, if_neg hlow]
          have hfu2 : 4 - (i + 1) = fu := by omega
          go_wp2_with fail
          go_region
          go_wp2_with fail
          go_region
          go_wp2_with fail
          go_roundw
          case rel =>
            refine ⟨i + 1, m + z, p + 1, by omega, by go_num, by rw [hw1.out, hw2.out], ?_, ?_, by rw [hfu2]; exact hres.out, by omega, .inl (by omega), by omega, ?_, fun _ => by omega, ?_⟩
            · rw [hpowS.out]; exact congrArg _ (by omega)
            · rw [hpowS.out]; exact hsum
            · have := hcuN.out.drew.drew
              rw [show ((p + 1 : Nat) : Int) = (p : Int) + 1 by omega] at this
              exact this
            · exact ((hkp.setCell (p := ⟨C, 1, none⟩) (.inl (by simp)) _).drewN 1).drewN 1
          case measure => simp [intOf]; omega
      · have hdr : F.drop p = [] := List.drop_eq_nil_of_le (by rw [Hn.out]; omega)
        have hres : rnum (F.drop p0) b = (0, [], true) := by
          rw [← hr, hdr]; rfl
        have hnp : (n : Int) ≤ (p : Int) := by omega
        have hcl := heap_lt hcu.blk
        have HRES := hide hres
        have HDR := hide hdr
        have HCU := hide hcu
        clear hr hres hdr hcu
        go_wp2_with fail
        go_region
        go_wp2_with fail
        go_ret
        refine ⟨p, ?_, ?_, ?_, hp1, by rw [Hn.out]; exact hp2, .inr (by rw [HRES.out]), ?_⟩
        · rw [HRES.out]; rfl
        · rw [HRES.out]; exact HCU.out.drew.turn
        · rw [HRES.out]; exact HDR.out
        · exact (hkp.drewN 1).setCell (p := ⟨C, 2, none⟩) (.inl (by simp)) _
    · have ei : i = 4 := by omega
      subst ei
      have hres : rnum (F.drop p0) b = (0, F.drop p, true) := by
        rw [← hr]; rfl
      obtain ⟨c0, c1, c2, f1, f2⟩ := hcu.cells
      have hcl := heap_lt hcu.blk
      have HRES := hide hres
      have HCU := hide hcu
      clear hr hres hcu
      go_wp2_with fail
      go_ret
      refine ⟨p, ?_, ?_, ?_, hp1, by rw [Hn.out]; exact hp2, .inr (by rw [HRES.out]), ?_⟩
      · rw [HRES.out]; rfl
      · rw [HRES.out]; exact HCU.out.turn
      · rw [HRES.out]
      · exact hkp.setCell (p := ⟨C, 2, none⟩) (.inl (by simp)) _
end Go.Proofs.YtpdoacfiiledcaaGreatDoor.Pak

set_option linter.unusedVariables false
set_option maxRecDepth 4000
namespace Go.Proofs.YtpdoacfiiledcaaGreatDoor.Pak
open Go.RowKit Go.Proofs.YtpdoacfiiledcaaGreatDoor Go.Proofs.YtpdoacfiiledcaaGreatDoor.Spl SiftM

set_option maxHeartbeats 400000 in
theorem rsame_any (a1 a2 : Option Addr) (c1 n1 c2 n2 : Nat) (l m : List UInt8) (w : World) (h1 : Vw w w.heap.size a1 l) (h2 : Vw w w.heap.size a2 m) (hl : l.length = n1) (hm : m.length = n2) (hb : n1 ≤ 4000000) :
    Calls Tryz.prog 184 #[.slice a1 n1 c1, .slice a2 n2 c2] w fun e w' => e = .returned (.bool (decide (l = m))) ∧ Kp [] w w' := by
  have H1 := hide h1
  have H2 := hide h2
  have Hl := hide hl
  have Hm := hide hm
  clear h1 h2 hl hm
  by_cases hne : n1 = n2
  · subst hne
    go_enter Tryz.func184, Tryz.ntmps184
    go_wp2_with fail
    go_loopw [5] (fun iv wr => ∃ k : Nat, k ≤ n1 ∧ iv = .int .i64 k ∧ l.take k = m.take k ∧ Kp [] w wr) (fun iv _ => n1 - (intOf iv).toNat)
    case atStart => exact ⟨0, by omega, rfl, rfl, Kp.refl _ _⟩
    case round =>
      obtain ⟨k, hk, rfl, heq, hkp⟩ := hrel
      have HE := hide heq
      clear heq
      by_cases hlt : k < n1
      · have hkl : k < l.length := by rw [Hl.out]; exact hlt
        have hkm : k < m.length := by rw [Hm.out]; exact hlt
        obtain ⟨g1, o1, rfl, hg1, hc1⟩ : ∃ g off, a1 = some ⟨g, off, none⟩ ∧ g < w.heap.size ∧ ∀ j (h : j < l.length), wr.cell? ⟨g, off + j, none⟩ = some (.int .u8 (l[j].toNat : Int)) := by
          rcases vw_kp H1.out hkp (by simp) with ⟨e, _⟩ | e
          · rw [e] at hkl; simp at hkl
          · exact e
        obtain ⟨g2, o2, rfl, hg2, hc2⟩ : ∃ g off, a2 = some ⟨g, off, none⟩ ∧ g < w.heap.size ∧ ∀ j (h : j < m.length), wr.cell? ⟨g, off + j, none⟩ = some (.int .u8 (m[j].toNat : Int)) := by
          rcases vw_kp H2.out hkp (by simp) with ⟨e, _⟩ | e
          · rw [e] at hkm; simp at hkm
          · exact e
        have q1 := hc1 k hkl
        have q2 := hc2 k hkm
        have t1 := take_snocL l k hkl
        have t2 := take_snocL m k hkm
        have hz := hkp.size
        have hg1' : g1 < wr.heap.size := by omega
        have hg2' : g2 < wr.heap.size := by omega
        by_cases hx : l[k] = m[k]
        · have hE2 : l.take (k + 1) = m.take (k + 1) := by rw [t1, t2, HE.out, hx]
          rw [hx] at q1
          have HE2 := hide hE2
          obtain ⟨x, hxE⟩ : ∃ x, m[k].toNat = x := ⟨_, rfl⟩
          rw [hxE] at q1 q2
          clear hc1 hc2 t1 t2 hE2 hx hxE
          go_wp2_with fail
          go_region
          go_wp2_with fail
          go_roundw
          case rel => exact ⟨k + 1, by omega, by go_num, HE2.out, hkp.drewN 1⟩
          case measure => simp [intOf]; omega
        · have hlm : l ≠ m := by
            intro e
            subst e
            exact hx rfl
          have hn : l[k].toNat ≠ m[k].toNat := fun e => hx (UInt8.toNat_inj.1 e)
          obtain ⟨x, hxE⟩ : ∃ x, l[k].toNat = x := ⟨_, rfl⟩
          obtain ⟨y, hyE⟩ : ∃ y, m[k].toNat = y := ⟨_, rfl⟩
          rw [hxE] at q1 hn
          rw [hyE] at q2 hn
          have hb1 : ((x : Int) == (y : Int)) = false := by simp; omega
          have HLM := hide hlm
          clear hc1 hc2 t1 t2 hx hxE hyE hlm
          go_wp2_with fail
          go_region
          go_wp2_with fail
          go_ret
          exact ⟨ret_bool (by rw [decide_eq_false HLM.out]), hkp.drewN 1⟩
      · have hlm : l = m := by
          have h := HE.out
          rw [List.take_of_length_le (by rw [Hl.out]; omega), List.take_of_length_le (by rw [Hm.out]; omega)] at h
          exact h
        have HLM := hide hlm
        clear hlm
        go_wp2_with fail
        go_ret
        exact ⟨ret_bool (by rw [decide_eq_true HLM.out]), hkp⟩
  · have hlm : l ≠ m := by
      intro e
      apply hne
      rw [← Hl.out, ← Hm.out, e]
    have hneI : ((n1 : Int) == (n2 : Int)) = false := by simp; omega
    have HLM := hide hlm
    clear hlm
    go_enter Tryz.func184, Tryz.ntmps184
    go_wp2_with fail
    go_ret
    exact ⟨ret_bool (by rw [decide_eq_false HLM.out]), Kp.refl _ _⟩

/-- A text of these words. -/
def joinW : List (List UInt8) → List UInt8
  | [] => []
  | x :: r => x ++ (r.map fun y => 32 :: y).flatten
theorem joinW_snoc (ws : List (List UInt8)) (x : List UInt8) : joinW (ws ++ [x]) = joinW ws ++ ((if ws = [] then [] else [32]) ++ x) := by
  cases ws with
  | nil => simp [joinW]
  | cons y r => simp [joinW]
theorem joinW_len (ws : List (List UInt8)) (h : ∀ x ∈ ws, x.length ≤ 268435456) : (joinW ws).length ≤ 268435457 * ws.length := by
  cases ws with
  | nil => simp [joinW]
  | cons y r =>
    have h1 := h y (by simp)
    have h2 : ∀ (r : List (List UInt8)), (∀ x ∈ r, x.length ≤ 268435456) → ((r.map fun y => 32 :: y).flatten).length ≤ 268435457 * r.length := by
      intro r
      induction r with
      | nil => intro _; simp
      | cons z r ih =>
        intro hr
        have := ih (fun x hx => hr x (by simp [hx]))
        have := hr z (by simp)
        simp at *
        omega
    have := h2 r (fun x hx => h x (by simp [hx]))
    simp [joinW] at *
    omega

set_option maxHeartbeats 400000 in
theorem rbody_any (B : Nat) (u : Value) (ws : List (List UInt8)) (w : World) (hu : w.ownsRow B 9 1 u ws.length (strV ws)) (hn : ws.length ≤ 100000) (hw : ∀ x ∈ ws, x.length ≤ 268435456) :
    Calls Tryz.prog 183 #[u] w fun e w' => e = .returned (.string ⟨(joinW ws).toArray⟩) ∧ w' = w := by
  obtain ⟨au, cu, rfl, hau⟩ := owns_forms hu
  obtain ⟨n, hnE⟩ : ∃ n, ws.length = n := ⟨_, rfl⟩
  rw [hnE] at hu hau hn
  rw [hnE]
  have HU := hide hu
  have HN := hide hnE
  have HW := hide hw
  clear hu hnE hw
  go_enter Tryz.func183, Tryz.ntmps183
  go_wp2_with fail
  go_loopw [3, 4] (fun sv iv wr => ∃ k : Nat, k ≤ n ∧ iv = .int .i64 k ∧ sv = .string ⟨(joinW (ws.take k)).toArray⟩ ∧ wr = w) (fun _ iv _ => n - (intOf iv).toNat)
  case atStart => exact ⟨0, by omega, rfl, rfl, rfl⟩
  case round =>
    obtain ⟨k, hk, rfl, rfl, rfl⟩ := hrel
    by_cases hlt : k < n
    · obtain ⟨g, rfl⟩ := hau (by omega)
      have hkw : k < ws.length := by rw [HN.out]; exact hlt
      have hc := strs_cells HU.out HN.out k hkw
      have hgl := (HU.out.lt g rfl).2
      have hsn := joinW_snoc (ws.take k) ws[k]
      rw [← take_snocL ws k hkw] at hsn
      have hemp : ws.take k = [] ↔ k = 0 := by
        constructor
        · intro e
          have := congrArg List.length e
          rw [List.length_take] at this
          simp at this
          rcases this with h | h
          · exact h
          · rw [h] at hkw; simp at hkw
        · rintro rfl; rfl
      obtain ⟨x, hx⟩ : ∃ x, ws[k] = x := ⟨_, rfl⟩
      rw [hx] at hc hsn
      have HSN := hide hsn
      obtain ⟨acc, hacc⟩ : ∃ acc, joinW (ws.take k) = acc := ⟨_, rfl⟩
      have haccl := joinW_len (ws.take k) (fun y hy => HW.out y (List.mem_of_mem_take hy))
      have hxl := HW.out ws[k] (List.getElem_mem hkw)
      rw [hx] at hxl
      rw [hacc, List.length_take] at haccl
      have haccb : acc.length ≤ 26843545700000 := by omega
      have s1 : ¬ 9223372036854775807 < acc.length + x.length := by omega
      have s2 : ¬ 9223372036854775807 < acc.length + 1 := by omega
      have s3 : ¬ 9223372036854775807 < acc.length + 1 + x.length := by omega
      rw [hacc] at HSN
      rw [hacc]
      clear hsn hx hacc haccl
      by_cases h0 : k = 0
      · have he : Hid (joinW (ws.take (k + 1)) = acc ++ x) := by
          show _ = _
          rw [HSN.out, if_pos (hemp.2 h0)]; simp
        clear HSN hemp
        subst h0
        go_wp2_with fail
        go_roundw
        case rel =>
          refine ⟨0 + 1, by omega, by go_num, ?_, trivial⟩
          rw [he.out]
          exact val_str (by rw [Go.ByteArray.mk_append_mk])
        case measure => simp [intOf]; omega
      · have he : Hid (joinW (ws.take (k + 1)) = (acc ++ [32]) ++ x) := by
          show _ = _
          rw [HSN.out, if_neg (fun e => h0 (hemp.1 e))]; simp
        clear HSN hemp
        go_wp2_with fail
        go_roundw
        case rel =>
          refine ⟨k + 1, by omega, by go_num, ?_, trivial⟩
          rw [he.out]
          exact val_str (by rw [show (ByteArray.mk #[32]) = ByteArray.mk [32].toArray from rfl, Go.ByteArray.mk_append_mk, Go.ByteArray.mk_append_mk])
        case measure => simp [intOf]; omega
    · have ek : n = k := by omega
      subst ek
      rw [show ws.take n = ws by rw [← HN.out, List.take_length]]
      go_wp2_with fail
      go_ret
      exact ⟨rfl, rfl⟩
end Go.Proofs.YtpdoacfiiledcaaGreatDoor.Pak

set_option linter.unusedVariables false
set_option maxRecDepth 4000
namespace Go.Proofs.YtpdoacfiiledcaaGreatDoor.Pak
open Go.RowKit Go.Proofs.YtpdoacfiiledcaaGreatDoor Go.Proofs.YtpdoacfiiledcaaGreatDoor.Spl SiftM

/-- A part of bytes that lie somewhere. -/
theorem part_vw (a : Option Addr) (n cap p k B : Nat) (F : List UInt8) (hn : F.length = n) (hpk : p + k ≤ n) (hc : n ≤ cap) : ∀ w, Vw w B a F → Vw w B (if cap = p then a else Option.map (fun x => x.add p) a) ((F.drop p).take k) := by
  intro w hv
  have ea : ∀ g off, (⟨g, off, none⟩ : Addr).add p = ⟨g, off + p, none⟩ := by intro g off; unfold Addr.add; split <;> simp_all
  by_cases hk : k = 0
  · subst hk
    rcases hv with ⟨rfl, rfl⟩ | ⟨g, off, rfl, hg, _⟩
    · left; simp
    · right
      by_cases e : cap = p
      · exact ⟨g, off, by rw [if_pos e], hg, fun j h => by simp at h⟩
      · refine ⟨g, off + p, ?_, hg, fun j h => by simp at h⟩
        rw [if_neg e]
        show some ((⟨g, off, none⟩ : Addr).add p) = _
        rw [ea]
  · rcases hv with ⟨rfl, rfl⟩ | ⟨g, off, rfl, hg, hcell⟩
    · simp at hn; omega
    · right
      refine ⟨g, off + p, ?_, hg, ?_⟩
      · rw [if_neg (by omega)]
        show some ((⟨g, off, none⟩ : Addr).add p) = _
        rw [ea]
      · intro j h
        have hj : j < k := by simp at h; omega
        have := hcell (p + j) (by omega)
        rw [Nat.add_assoc, this]
        simp

def TextPost (C B n cap : Nat) (a : Option Addr) (F : List UInt8) (p k : Nat) (b : Bool) (w : World) (e : Ending) (w' : World) : Prop :=
  ∃ p' : Nat, e = .returned (.string ⟨(rtext k (F.drop p) b).1.toArray⟩) ∧ Cu w' C B a n cap F p' (rtext k (F.drop p) b).2.2 ∧ F.drop p' = (rtext k (F.drop p) b).2.1 ∧ p ≤ p' ∧ (p' ≤ F.length ∨ p' = p) ∧ Kp [C] w w'

set_option maxHeartbeats 400000 in
theorem rtext_any (C B n cap : Nat) (a : Option Addr) (F : List UInt8) (p k : Nat) (b : Bool) (w : World) (h : Cu w C B a n cap F p b) (hn : F.length = n) (hn2 : n ≤ 4000000) (hc : n ≤ cap) (hp : p ≤ n ∨ b = true ∧ p ≤ n + 1) (hk : k < 268435456) :
    Calls Tryz.prog 301 #[.pointer (some ⟨C, 0, none⟩), .int .i64 k] w (TextPost C B n cap a F p k b w) := by
  obtain ⟨c0, c1, c2, f1, f2⟩ := h.cells
  have hcl := heap_lt h.blk
  have HC := hide h
  have Hn := hide hn
  have hdl : (F.drop p).length = n - p := by rw [List.length_drop, hn]
  have hk0 : decide ((k : Int) < 0) = false := by simp
  by_cases hshort : (n : Int) - (p : Int) < (k : Int)
  · have hres : rtext k (F.drop p) b = ([], F.drop p, true) := by
      unfold rtext
      by_cases hlt : (F.drop p).length < k
      · rw [if_pos hlt]
      · rw [if_neg hlt]
        rcases hp with hp | ⟨hb, hp⟩
        · rw [hdl] at hlt; omega
        · have hd : F.drop p = [] := List.eq_nil_of_length_eq_zero (by rw [hdl] at hlt ⊢; omega)
          rw [hd, hb]; simp
    have HR := hide hres
    clear h hn hdl hres
    go_enter Tryz.func301, Tryz.ntmps301
    go_wp2_with fail
    go_region
    go_wp2_with fail
    go_ret
    refine ⟨p, by rw [HR.out]; rfl, ?_, by rw [HR.out], Nat.le_refl _, .inr rfl, ?_⟩
    · rw [HR.out]; exact HC.out.drew.turn
    · exact ((Kp.refl [C] w).drewN 1).setCell (p := ⟨C, 2, none⟩) (.inl (by simp)) _
  · have hpn : p ≤ n ∧ k ≤ n - p := by
      rcases hp with hp | ⟨hb, hp⟩ <;> omega
    have hres : rtext k (F.drop p) b = ((F.drop p).take k, (F.drop p).drop k, b) := by
      unfold rtext
      rw [if_neg (by rw [hdl]; omega)]
    have hvw := part_vw a n cap p k B F hn (by omega) hc
    have htl : ((F.drop p).take k).length = p + k - p := by rw [List.length_take, hdl]; omega
    have hcu1 : Cu ((w.setCell ⟨C, 1, none⟩ (.int .i64 ((p : Int) + (k : Int)))).drew.drew) C B a n cap F (p + k) b := by
      have := (h.move (p + k)).drew.drew
      rw [show ((p + k : Nat) : Int) = (p : Int) + (k : Int) by omega] at this
      exact this
    have kp1 : Kp [C] w ((w.setCell ⟨C, 1, none⟩ (.int .i64 ((p : Int) + (k : Int)))).drew.drew) := (((Kp.refl [C] w).setCell (p := ⟨C, 1, none⟩) (.inl (by simp)) _).drewN 1).drewN 1
    have hcv := conv_vw _ B _ _ (hvw _ hcu1.vw) (cap - p)
    rw [htl] at hcv
    obtain ⟨tx, htx⟩ : ∃ tx, (F.drop p).take k = tx := ⟨_, rfl⟩
    rw [htx] at hcv hres
    have HR := hide hres
    have HC1 := hide hcu1
    have HK1 := hide kp1
    have hpkc : p + k ≤ cap := by omega
    have hvw0 := h.vw
    clear h hn hdl hres hvw htl htx hcu1 HC kp1
    rw [show p + k - p = k by omega] at hcv
    by_cases hcp : cap = p
    · rw [if_pos hcp] at hcv
      have hk00 : k = 0 := by omega
      subst hk00
      subst hcp
      rw [Nat.sub_self] at hcv
      rw [show ((cap : Int) + ((0 : Nat) : Int)) = (cap : Int) by simp] at hcv HC1 HK1
      clear hvw0
      go_enter Tryz.func301, Tryz.ntmps301
      go_wp2_with fail
      go_region
      go_wp2_with fail
      go_region
      all_goals
        go_wp2_with fail
        go_ret
        refine ⟨cap + 0, by rw [HR.out]; rfl, ?_, ?_, by omega, .inl (by rw [Hn.out]; omega), HK1.out⟩
        · rw [HR.out]; exact HC1.out
        · rw [HR.out, List.drop_drop]
    · rw [if_neg hcp] at hcv
      rcases hvw0 with ⟨hF0, rfl⟩ | ⟨g, off, rfl, hg, _⟩
      · have hcv' : (convert 112 9 (.slice none k (cap - p))).run Tryz.prog ((w.setCell ⟨C, 1, none⟩ (.int .i64 ((p : Int) + (k : Int)))).drew.drew) = .ok (.string ⟨tx.toArray⟩) ((w.setCell ⟨C, 1, none⟩ (.int .i64 ((p : Int) + (k : Int)))).drew.drew) := hcv
        clear hcv hF0
        go_enter Tryz.func301, Tryz.ntmps301
        go_wp2_with fail
        go_region
        go_wp2_with fail
        go_region
        all_goals
          go_wp2_with fail
          go_ret
          refine ⟨p + k, by rw [HR.out]; rfl, ?_, ?_, by omega, .inl (by rw [Hn.out]; omega), HK1.out⟩
          · rw [HR.out]; exact HC1.out
          · rw [HR.out, List.drop_drop]
      · have ea : (⟨g, off, none⟩ : Addr).add p = ⟨g, off + p, none⟩ := by unfold Addr.add; split <;> simp_all
        have hcv' : (convert 112 9 (.slice (some ⟨g, off + p, none⟩) k (cap - p))).run Tryz.prog ((w.setCell ⟨C, 1, none⟩ (.int .i64 ((p : Int) + (k : Int)))).drew.drew) = .ok (.string ⟨tx.toArray⟩) ((w.setCell ⟨C, 1, none⟩ (.int .i64 ((p : Int) + (k : Int)))).drew.drew) := by
          rw [← ea]; exact hcv
        clear hcv
        go_enter Tryz.func301, Tryz.ntmps301
        go_wp2_with fail
        go_region
        go_wp2_with fail
        go_region
        all_goals
          go_wp2_with fail
          go_ret
          refine ⟨p + k, by rw [HR.out]; rfl, ?_, ?_, by omega, .inl (by rw [Hn.out]; omega), HK1.out⟩
          · rw [HR.out]; exact HC1.out
          · rw [HR.out, List.drop_drop]
end Go.Proofs.YtpdoacfiiledcaaGreatDoor.Pak

set_option linter.unusedVariables false
set_option maxRecDepth 4000
namespace Go.Proofs.YtpdoacfiiledcaaGreatDoor.Pak
open Go.RowKit Go.Proofs.YtpdoacfiiledcaaGreatDoor Go.Proofs.YtpdoacfiiledcaaGreatDoor.Spl SiftM

theorem rnumG_lt : ∀ (f i n : Nat) (l : List UInt8) (b : Bool), n < 128 ^ i → i + f ≤ 4 → (rnumG f i n l b).1 < 268435456
  | 0, i, n, l, b, _, _ => by simp [rnumG]
  | f + 1, i, n, [], b, _, _ => by simp [rnumG]
  | f + 1, i, n, c :: r, b, hn, hi => by
    have hc : c.toNat % 128 * 128 ^ i ≤ 127 * 128 ^ i := Nat.mul_le_mul_right _ (by omega)
    have hs : n + c.toNat % 128 * 128 ^ i < 128 ^ (i + 1) := by rw [Nat.pow_succ]; omega
    have hp : 128 ^ (i + 1) ≤ 128 ^ 4 := Nat.pow_le_pow_right (by omega) (by omega)
    show (if c.toNat < 128 then (n + c.toNat % 128 * 128 ^ i, r, b) else rnumG f (i + 1) (n + c.toNat % 128 * 128 ^ i) r b).1 < _
    split
    · simp only; omega
    · exact rnumG_lt f (i + 1) _ r b hs (by omega)
theorem rnum_lt (l : List UInt8) (b : Bool) : (rnum l b).1 < 268435456 := rnumG_lt 4 0 0 l b (by simp) (by omega)

def sl3 (L : List Sl) : List Value := L.flatMap fun s => [Value.int .i64 (s.1 : Int), .int .i64 (s.2.1 : Int), .string ⟨s.2.2.toArray⟩]
theorem sl3_snoc (L : List Sl) (s : Sl) : sl3 (L ++ [s]) = sl3 L ++ [.int .i64 (s.1 : Int), .int .i64 (s.2.1 : Int), .string ⟨s.2.2.toArray⟩] := by simp [sl3]
theorem info252 : (Tryz.prog.info? 466).map (fun i => (i.zero, i.size, i.bytes)) = some (some (.agg #[.int .i64 0, .int .i64 0, .string ⟨#[]⟩]), 3, 32) := by kernel_rfl

theorem kb_row {w w' : World} {Bs C n : Nat} {v : Value} {xs : List Value} (h : w.ownsRow Bs 466 3 v n xs) (k : Kp v.ownBlock.toList w w') : Kb 466 [C] Bs w w' := by
  refine Kb.of_kp k ?_
  intro x hx
  rcases h.2 with ⟨rfl, _⟩ | ⟨g, cap, cur, rfl, hb, hgg, rest⟩
  · simp [Value.ownBlock] at hx
  · simp [Value.ownBlock] at hx
    subst hx
    exact .inr ⟨hb, _, _, hgg⟩
/-- What a call of slots leaves. -/
def SlotPost (C B n cap : Nat) (a : Option Addr) (F : List UInt8) (p : Nat) (b : Bool) (Bs : Nat) (L : List Sl) (w : World) (e : Ending) (w' : World) : Prop :=
  ∃ (al : Option Addr) (cl m p' : Nat), e = .returned (.slice al m cl) ∧ (rslots L (F.drop p) b).1.length = m ∧ w'.ownsRow Bs 466 3 (.slice al m cl) m (sl3 (rslots L (F.drop p) b).1) ∧ Cu w' C B a n cap F p' (rslots L (F.drop p) b).2.2 ∧ F.drop p' = (rslots L (F.drop p) b).2.1 ∧ p ≤ p' ∧ (p' ≤ n ∨ (rslots L (F.drop p) b).2.2 = true ∧ p' ≤ n + 1) ∧ m ≤ p' + 1 ∧ ((rslots L (F.drop p) b).2.2 = false → m ≤ p') ∧ Kb 466 [C] Bs w w'

set_option maxHeartbeats 1000000 in
set_option maxRecDepth 100000 in
theorem rslots_any (C B n cap : Nat) (a : Option Addr) (F : List UInt8) (p0 : Nat) (b0 : Bool) (Bs : Nat) (al : Option Addr) (cl m0 : Nat) (L0 : List Sl) (w : World) (h : Cu w C B a n cap F p0 b0) (hn : F.length = n) (hn2 : n ≤ 4000000) (hc : n ≤ cap) (hp : p0 ≤ n) (hb0 : b0 = false)
    (hl : w.ownsRow Bs 466 3 (.slice al m0 cl) m0 (sl3 L0)) (hm0 : L0.length = m0) (hml : m0 ≤ p0) (hBs : Bs ≤ w.heap.size) (hBB : B ≤ Bs) :
    Calls Tryz.prog 297 #[.pointer (some ⟨C, 0, none⟩), .slice al m0 cl] w (SlotPost C B n cap a F p0 b0 Bs L0 w) := by
  obtain ⟨i0, hi0, hz0, hz1, hz2⟩ := info_parts info252
  have HP1 := hide (rnumber_any C B n cap a F p0 b0 w h hn hn2 (by omega))
  have hrow := hl
  have hCne : ∀ (w' : World) (b' : Bool) (p' : Nat) (al' : Option Addr) (m' cl' : Nat) (xs : List Value), Cu w' C B a n cap F p' b' → w'.ownsRow Bs 466 3 (.slice al' m' cl') m' xs → (Value.slice al' m' cl').ownBlock ≠ some C := fun w' b' p' al' m' cl' xs hcu ho => owns_ne ho hcu.blk (by decide)
  have HNE := hide hCne
  have HL := hide hl
  have Hn := hide hn
  have Hm0 := hide hm0
  have HC := hide h
  clear h hl hn hm0 hrow hCne
  go_enter Tryz.func297, Tryz.ntmps297
  go_wp2_with fail
  refine HP1.out.mono ?_
  rintro e w1 ⟨p1, rfl, hc1, hd1, hp1, hq1, ha1, k1⟩
  have hlt1 := rnum_lt (F.drop p0) b0
  obtain ⟨N1, hN1⟩ : ∃ N1, rnum (F.drop p0) b0 = N1 := ⟨_, rfl⟩
  rw [hN1] at hc1 hd1 ha1 hlt1
  rw [hN1]
  have hz1' := k1.size
  have ho1 := k1.owns HL.out (fun g hg hx => by simp at hx; subst hx; exact HNE.out w b0 p0 al m0 cl _ HC.out HL.out hg)
  have bel1 : Kb 466 [C] Bs w w1 := Kb.of_kp k1 (by simp)
  have hp1n : p1 ≤ n ∨ N1.2.2 = true ∧ p1 ≤ n + 1 := by
    rw [Hn.out] at hq1
    rcases hq1 with h | h
    · exact .inl h
    · left; omega
  have HT := hide (rtext_any C B n cap a F p1 N1.1 N1.2.2 w1 hc1 Hn.out hn2 hc hp1n hlt1)
  have HO1 := hide ho1
  have HC1 := hide hc1
  have Hd1 := hide hd1
  have HN1 := hide hN1
  clear hc1 hd1 ho1 k1 HP1 HL HC hN1
  go_wp2_with fail
  refine HT.out.mono ?_
  rintro e w2 ⟨p2, rfl, hc2, hd2, hp2, hq2, k2⟩
  rw [Hd1.out] at hc2 hd2
  rw [Hd1.out]
  obtain ⟨X, hX⟩ : ∃ X, rtext N1.1 N1.2.1 N1.2.2 = X := ⟨_, rfl⟩
  rw [hX] at hc2 hd2
  rw [hX]
  have hz2' := k2.size
  have ho2 := k2.owns HO1.out (fun g hg hx => by simp at hx; subst hx; exact HNE.out w1 _ p1 al m0 cl _ HC1.out HO1.out hg)
  have bel2 : Kb 466 [C] Bs w w2 := bel1.next (Kb.of_kp k2 (by simp))
  have hp2n : p2 ≤ n + 1 := by
    rw [Hn.out] at hq2
    rcases hq2 with h | h <;> omega
  have HP3 := hide (rnumber_any C B n cap a F p2 X.2.2 w2 hc2 Hn.out hn2 hp2n)
  have HO2 := hide ho2
  have HC2 := hide hc2
  have Hd2 := hide hd2
  have HX := hide hX
  clear hc2 hd2 ho2 k2 HT hX HO1 HC1 bel1
  go_wp2_with fail
  refine HP3.out.mono ?_
  rintro e w3 ⟨p3, rfl, hc3, hd3, hp3, hq3, ha3, k3⟩
  have hlt3 := rnum_lt (F.drop p2) X.2.2
  rw [Hd2.out] at hc3 hd3 ha3 hlt3
  rw [Hd2.out]
  obtain ⟨N3, hN3⟩ : ∃ N3, rnum X.2.1 X.2.2 = N3 := ⟨_, rfl⟩
  rw [hN3] at hc3 hd3 ha3 hlt3
  rw [hN3]
  have hz3' := k3.size
  have ho3 := k3.owns HO2.out (fun g hg hx => by simp at hx; subst hx; exact HNE.out w2 _ p2 al m0 cl _ HC2.out HO2.out hg)
  have bel3 : Kb 466 [C] Bs w w3 := bel2.next (Kb.of_kp k3 (by simp))
  have hp3n : p3 ≤ n := by
    rw [Hn.out] at hq1 hq2 hq3
    rcases hq1 with h | h <;> rcases hq2 with h' | h' <;> rcases hq3 with h'' | h'' <;> omega
  have hRS : Hid (rslots L0 (F.drop p0) b0 = rdocs X.1 N3.1 0 L0 N3.2.1 N3.2.2) := by
    show _ = _
    unfold rslots
    simp only [HN1.out, HX.out, hN3]
  obtain ⟨R, hR⟩ : ∃ R, rdocs X.1 N3.1 0 L0 N3.2.1 N3.2.2 = R := ⟨_, rfl⟩
  rw [← hd3] at hR
  obtain ⟨K, hK⟩ : ∃ K, N3.1 = K := ⟨_, rfl⟩
  obtain ⟨b3, hb3⟩ : ∃ b3, N3.2.2 = b3 := ⟨_, rfl⟩
  obtain ⟨t, ht⟩ : ∃ t, X.1 = t := ⟨_, rfl⟩
  have HRS : Hid (rslots L0 (F.drop p0) b0 = R) := by
    show _ = _
    rw [hRS.out, ← hd3]; exact hR
  rw [hK, hb3, ht] at hR
  rw [hK] at hlt3
  rw [hb3] at hc3 ha3
  rw [hK, ht]
  have hm3 : m0 ≤ p3 := by omega
  have HR := hide hR
  have HC3 := hide hc3
  have HO3 := hide ho3
  have hb3' : Bs ≤ w3.heap.size := by omega
  clear hc3 hd3 hR ho3 k3 hRS hN3 hK hb3 ht HP3 HO2 HC2 bel2 HN1 HX Hd1 Hd2 hp1n hp2n ha1 ha3 hq1 hq2 hq3
  go_wp2_with fail
  go_loopw [1, 8, 9] (fun lv dv iv wr => ∃ (i nd : Nat) (L : List Sl) (al : Option Addr) (cl m p : Nat) (b : Bool), i ≤ K ∧ iv = .int .i64 i ∧ dv = .int .i64 ((nd : Int) - 1) ∧ lv = .slice al m cl ∧ L.length = m ∧ nd ≤ i * 268435456 ∧ rdocs t (K - i) nd L (F.drop p) b = R ∧ p3 ≤ p ∧ p ≤ n ∧ Cu wr C B a n cap F p b ∧ wr.ownsRow Bs 466 3 (.slice al m cl) m (sl3 L) ∧ m ≤ p + 1 ∧ (b = false → m ≤ p) ∧ Bs ≤ wr.heap.size ∧ Kb 466 [C] Bs w wr) (fun _ _ iv _ => K - (intOf iv).toNat)
  case atStart => exact ⟨0, 0, L0, al, cl, m0, p3, b3, by omega, rfl, rfl, rfl, Hm0.out, by omega, HR.out, Nat.le_refl _, hp3n, HC3.out, HO3.out, by omega, fun _ => hm3, hb3', bel3⟩
  case round =>
    clear HC3 HO3 bel3 hb3' HR hm3
    obtain ⟨i, nd, L, al, cl, m, p, b, hi, rfl, rfl, rfl, hm, hnd, hr, hpp, hpn, hcu, ho, hmp, hmb, hbs, hbel⟩ := hrel
    obtain ⟨c0, c1, c2, f1, f2⟩ := hcu.cells
    have hcl := heap_lt hcu.blk
    by_cases hgo : i < K ∧ b = false
    · obtain ⟨hlt, rfl⟩ := hgo
      obtain ⟨j, hj⟩ : ∃ j, K - i = j + 1 := ⟨K - i - 1, by omega⟩
      rw [hj, rdocs, if_neg (by simp)] at hr
      have HNU := hide (rnumber_any C B n cap a F p false wr hcu Hn.out hn2 (by omega))
      have hl4 := rnum_lt (F.drop p) false
      have hmp' := hmb rfl
      have HR := hide hr
      have HCU := hide hcu
      have HO := hide ho
      have Hm := hide hm
      clear hr hcu ho hm hmb
      go_wp2_with fail
      refine HNU.out.mono ?_
      rintro e w4 ⟨p4, rfl, hc4, hd4, hp4, hq4, ha4, k4⟩
      obtain ⟨N4, hN4⟩ : ∃ N4, rnum (F.drop p) false = N4 := ⟨_, rfl⟩
      rw [hN4] at hc4 hd4 ha4 hl4
      rw [hN4]
      have hz4' := k4.size
      have hp4n : p4 ≤ n := by
        rw [Hn.out] at hq4
        rcases hq4 with h | h <;> omega
      have HO4 := hide (k4.owns HO.out (fun g hg hx => by simp at hx; subst hx; exact HNE.out wr _ p al m cl _ HCU.out HO.out hg))
      have bel4 : Kb 466 [C] Bs w w4 := hbel.next (Kb.of_kp k4 (by simp))
      have HNU5 := hide (rnumber_any C B n cap a F p4 N4.2.2 w4 hc4 Hn.out hn2 (by omega))
      have hl5 := rnum_lt (F.drop p4) N4.2.2
      have HC4 := hide hc4
      have Hd4 := hide hd4
      have HN4 := hide hN4
      obtain ⟨d, hd⟩ : ∃ d, N4.1 = d := ⟨_, rfl⟩
      rw [hd] at hl4
      rw [hd]
      have Hd := hide hd
      clear hc4 hd4 hN4 k4 HNU HCU HO hd c0 c1 c2 f1 f2 hbel
      go_wp2_with fail
      refine HNU5.out.mono ?_
      rintro e w5 ⟨p5, rfl, hc5, hd5, hp5, hq5, ha5, k5⟩
      rw [Hd4.out] at hc5 hd5 ha5 hl5
      rw [Hd4.out]
      obtain ⟨N5, hN5⟩ : ∃ N5, rnum N4.2.1 N4.2.2 = N5 := ⟨_, rfl⟩
      rw [hN5] at hc5 hd5 ha5 hl5
      rw [hN5]
      have hz5' := k5.size
      have hp5n : p5 ≤ n := by
        rw [Hn.out] at hq5
        rcases hq5 with h | h <;> omega
      have HO5 := hide (k5.owns HO4.out (fun g hg hx => by simp at hx; subst hx; exact HNE.out w4 _ p4 al m cl _ HC4.out HO4.out hg))
      have bel5 : Kb 466 [C] Bs w w5 := bel4.next (Kb.of_kp k5 (by simp))
      obtain ⟨RP, hRP⟩ : ∃ RP, rdoc t nd L (F.drop p) false = RP := ⟨_, rfl⟩
      have hpl : rpl (nd + d) t N5.1 0 L (F.drop p5) N5.2.2 = RP := by
        rw [← hRP]; unfold rdoc
        rw [HN4.out, hN5, hd5, Hd.out]
      obtain ⟨tm, htm⟩ : ∃ tm, N5.1 = tm := ⟨_, rfl⟩
      obtain ⟨b5, hb5⟩ : ∃ b5, N5.2.2 = b5 := ⟨_, rfl⟩
      rw [htm, hb5] at hpl
      rw [htm] at hl5
      rw [hb5] at hc5 ha5
      rw [htm]
      have hm5 : m ≤ p5 := by omega
      have hrec : Hid (rdocs t j (nd + d + 1) RP.1 RP.2.1 (RP.2.2 || decide (10000 < RP.1.length)) = R) := by
        show _ = _
        rw [← HR.out, ← hRP, HN4.out, Hd.out]
      have HPL := hide hpl
      have HC5 := hide hc5
      have hb5s : Bs ≤ w5.heap.size := by omega
      have hndb : nd + d ≤ 72057594037927936 := by omega
      clear hc5 hd5 k5 hN5 hpl hRP htm hb5 HNU5 HC4 HO4 bel4 HR Hd4 HN4 Hd ha4 ha5 hq4 hq5
      go_wp2_with fail
      go_loopw [1, 12, 13] (fun lv pv kv wr => ∃ (k np : Nat) (L : List Sl) (al : Option Addr) (cl m p : Nat) (b : Bool), k ≤ tm ∧ kv = .int .i64 k ∧ pv = .int .i64 ((np : Int) - 1) ∧ lv = .slice al m cl ∧ L.length = m ∧ np ≤ k * 268435456 ∧ rpl (nd + d) t (tm - k) np L (F.drop p) b = RP ∧ p5 ≤ p ∧ p ≤ n ∧ Cu wr C B a n cap F p b ∧ wr.ownsRow Bs 466 3 (.slice al m cl) m (sl3 L) ∧ m ≤ p + 1 ∧ (b = false → m ≤ p) ∧ Bs ≤ wr.heap.size ∧ Kb 466 [C] Bs w wr) (fun _ _ kv _ => tm - (intOf kv).toNat)
      case atStart => exact ⟨0, 0, L, al, cl, m, p5, b5, by omega, rfl, rfl, rfl, Hm.out, by omega, HPL.out, Nat.le_refl _, hp5n, HC5.out, HO5.out, by omega, fun _ => hm5, hb5s, bel5⟩
      case round =>
        clear HC5 HO5 bel5 hb5s HPL hm5 Hm hmp' hmp
        obtain ⟨k, np, L, al, cl, m, p, b, hk, rfl, rfl, rfl, hm, hnp, hr, hpp', hpn', hcu, ho, hmp, hmb, hbs', hbel⟩ := hrel
        obtain ⟨c0, c1, c2, f1, f2⟩ := hcu.cells
        have hcl := heap_lt hcu.blk
        by_cases hgo : k < tm ∧ b = false
        · obtain ⟨hlt2, rfl⟩ := hgo
          obtain ⟨j2, hj2⟩ : ∃ j2, tm - k = j2 + 1 := ⟨tm - k - 1, by omega⟩
          rw [hj2, rpl, if_neg (by simp)] at hr
          have HNU := hide (rnumber_any C B n cap a F p false wr hcu Hn.out hn2 (by omega))
          have hl6 := rnum_lt (F.drop p) false
          have hmp' := hmb rfl
          have HR := hide hr
          have HCU := hide hcu
          have HO := hide ho
          have Hm := hide hm
          clear hr hcu ho hm hmb
          go_wp2_with fail
          refine HNU.out.mono ?_
          rintro e w6 ⟨p6, rfl, hc6, hd6, hp6, hq6, ha6, k6⟩
          obtain ⟨N6, hN6⟩ : ∃ N6, rnum (F.drop p) false = N6 := ⟨_, rfl⟩
          rw [hN6] at hc6 hd6 ha6 hl6
          rw [hN6]
          have HR6 : Hid (rpl (nd + d) t j2 (np + N6.1 + 1) (L ++ [(nd + d, np + N6.1, t)]) N6.2.1 N6.2.2 = RP) := by
            show _ = _
            rw [← HR.out, hN6]
          rw [← hd6] at HR6
          obtain ⟨q, hq⟩ : ∃ q, N6.1 = q := ⟨_, rfl⟩
          obtain ⟨b6, hb6⟩ : ∃ b6, N6.2.2 = b6 := ⟨_, rfl⟩
          rw [hq, hb6] at HR6
          rw [hq] at hl6
          rw [hb6] at hc6 ha6
          rw [hq]
          have hz6' := k6.size
          have hp6n : p6 ≤ n := by
            rw [Hn.out] at hq6
            rcases hq6 with h | h <;> omega
          have HO6 := hide (k6.owns HO.out (fun g hg hx => by simp at hx; subst hx; exact HNE.out wr _ p al m cl _ HCU.out HO.out hg))
          have bel6 : Kb 466 [C] Bs w w6 := hbel.next (Kb.of_kp k6 (by simp))
          have HC6 := hide hc6
          have hnpb : np + q ≤ 72057594037927936 := by omega
          have hm6 : m + 1 ≤ p6 + 1 := by omega
          have hm6b : b6 = false → m + 1 ≤ p6 := by
            intro e
            rcases ha6 with h | h
            · omega
            · rw [e] at h; simp at h
          have HM6 := hide hm6b
          clear hc6 hd6 k6 hN6 hq hb6 HNU HCU HO HR c0 c1 c2 f1 f2 hbel ha6 hq6 hm6b
          go_wp2_with (first
            | (at_builtin; refine wpList_append_own_at _ rfl _ _ 395 rfl Bs 466 i0 (.agg #[.int .i64 0, .int .i64 0, .string ⟨#[]⟩]) 3 32 Tryz.underlying395 hi0 hz0 hz1 hz2 rfl (by decide) _ _ _ rfl (HO6.out.alloc _) ⟨w6.heap.size, 0, none⟩ 1 1 [.int .i64 ((nd : Int) + (d : Int)), .int .i64 ((np : Int) + (q : Int)), .string ⟨t.toArray⟩] rfl rfl (World.news_of_block (cs := #[.int .i64 ((nd : Int) + (d : Int)), .int .i64 ((np : Int) + (q : Int)), .string ⟨t.toArray⟩]) (t := 466) (fr := (0, 0)) (heap_alloc_new _ _)) ?c2 ?c3 ?c4 ?c5 ?_)
            | fail)
          case c2 => intro u hu; simp at hu; rcases hu with rfl | rfl | rfl <;> rfl
          case c3 => unfold maxLen; omega
          case c4 => omega
          case c5 => simp; omega
          intro v7 w7 ho7 hgrow _ _
          obtain ⟨a7, c7, rfl, _⟩ := owns_forms ho7
          have k7 : Kp (Value.slice al m cl).ownBlock.toList w6 w7 := ((Kp.refl _ _).alloc _).grown hgrow (fun j hj => .inl (by simp [hj]))
          have hz7' := k7.size
          have hge7 : ∀ x ∈ (Value.slice al m cl).ownBlock.toList, Bs ≤ x := fun x hx => (HO6.out.lt x (by simpa using hx)).1
          have HC7 := hide (HC6.out.kp k7 (fun hx => HNE.out w6 _ p6 al m cl _ HC6.out HO6.out (by simpa using hx)) (fun x hx => by have := hge7 x hx; omega))
          have bel7 : Kb 466 [C] Bs w w7 := bel6.next (kb_row HO6.out k7)
          have ho7' : w7.ownsRow Bs 466 3 (.slice a7 (m + 1) c7) (m + 1) (sl3 (L ++ [(nd + d, np + q, t)])) := by
            rw [sl3_snoc]
            have e1 : (((nd + d : Nat)) : Int) = (nd : Int) + (d : Int) := by omega
            have e2 : (((np + q : Nat)) : Int) = (np : Int) + (q : Int) := by omega
            simp only [e1, e2]
            exact ho7
          have HO7 := hide ho7'
          have hj2' : tm - (k + 1) = j2 := by omega
          clear ho7 ho7' hgrow k7 HO6 HC6 bel6
          go_wp2_with fail
          go_roundw
          case rel => exact ⟨k + 1, np + q + 1, L ++ [(nd + d, np + q, t)], a7, c7, m + 1, p6, b6, by omega, by go_num, by go_num, rfl, by rw [List.length_append, Hm.out]; rfl, by omega, by rw [hj2']; exact HR6.out, by omega, hp6n, HC7.out, HO7.out, hm6, HM6.out, by omega, bel7⟩
          case measure => simp [intOf]; omega
        · have hfin : RP = (L, F.drop p, b) := by
            rw [← hr]
            by_cases hb : b = true
            · subst hb
              cases tm - k with
              | zero => rfl
              | succ j => rw [rpl, if_pos rfl]
            · have : tm - k = 0 := by
                have hb' : b = false := by simpa using hb
                have hnl : ¬ k < tm := fun h => hgo ⟨h, hb'⟩
                omega
              rw [this]; rfl
          have hrec2 := hrec.out
          rw [hfin] at hrec2
          simp only at hrec2
          rw [hm] at hrec2
          have hj' : K - (i + 1) = j := by omega
          have hexit : k < tm → b = true := by
            intro h
            by_cases hb : b = true
            · exact hb
            · exact absurd ⟨h, by simpa using hb⟩ hgo
          have HREC := hide hrec2
          have HCU := hide hcu
          have HO := hide ho
          have Hm := hide hm
          have HMB := hide hmb
          clear hfin hrec2 hcu ho hm hr hgo hmb hrec
          by_cases hbig : 10000 < m
          · have HREC2 : Hid (rdocs t j (nd + d + 1) L (F.drop p) true = R) := by
              show _ = _
              rw [← HREC.out, decide_eq_true hbig, Bool.or_true]
            have HCT := hide HCU.out.turn
            have HOT := hide (((Kp.refl [C] wr).setCell (p := ⟨C, 2, none⟩) (.inl (by simp)) (.bool true)).owns HO.out (fun g hg hx => by simp at hx; subst hx; exact HNE.out wr _ p al m cl _ HCU.out HO.out hg))
            have belT : Kb 466 [C] Bs w (wr.setCell ⟨C, 2, none⟩ (.bool true)) := hbel.setW (p := ⟨C, 2, none⟩) (.inl (by simp)) _
            have hzT : Bs ≤ (wr.setCell ⟨C, 2, none⟩ (.bool true)).heap.size := by simp [World.setCell]; omega
            by_cases hlt3 : k < tm
            · have hb := hexit hlt3
              subst hb
              clear hexit
              go_wp2_with fail
              go_roundw
              case rel => exact ⟨i + 1, nd + d + 1, L, al, cl, m, p, true, by omega, by go_num, by go_num, rfl, Hm.out, by omega, by rw [hj']; exact HREC2.out, by omega, hpn', HCT.out, HOT.out, hmp, fun e => by simp at e, hzT, belT⟩
              case measure => simp [intOf]; omega
            · clear hexit
              go_wp2_with fail
              go_roundw
              case rel => exact ⟨i + 1, nd + d + 1, L, al, cl, m, p, true, by omega, by go_num, by go_num, rfl, Hm.out, by omega, by rw [hj']; exact HREC2.out, by omega, hpn', HCT.out, HOT.out, hmp, fun e => by simp at e, hzT, belT⟩
              case measure => simp [intOf]; omega
          · have HREC2 : Hid (rdocs t j (nd + d + 1) L (F.drop p) b = R) := by
              show _ = _
              rw [← HREC.out, decide_eq_false hbig, Bool.or_false]
            by_cases hlt3 : k < tm
            · have hb := hexit hlt3
              subst hb
              clear hexit
              go_wp2_with fail
              go_roundw
              case rel => exact ⟨i + 1, nd + d + 1, L, al, cl, m, p, true, by omega, by go_num, by go_num, rfl, Hm.out, by omega, by rw [hj']; exact HREC2.out, by omega, hpn', HCU.out, HO.out, hmp, HMB.out, hbs', hbel⟩
              case measure => simp [intOf]; omega
            · clear hexit
              go_wp2_with fail
              go_roundw
              case rel => exact ⟨i + 1, nd + d + 1, L, al, cl, m, p, b, by omega, by go_num, by go_num, rfl, Hm.out, by omega, by rw [hj']; exact HREC2.out, by omega, hpn', HCU.out, HO.out, hmp, HMB.out, hbs', hbel⟩
              case measure => simp [intOf]; omega
    · have hfin : R = (L, F.drop p, b) := by
        rw [← hr]
        by_cases hb : b = true
        · subst hb
          cases K - i with
          | zero => rfl
          | succ j => rw [rdocs, if_pos rfl]
        · have : K - i = 0 := by
            have hb' : b = false := by simpa using hb
            have hnl : ¬ i < K := fun h => hgo ⟨h, hb'⟩
            omega
          rw [this]; rfl
      have HFI := hide hfin
      have HCU := hide hcu
      have HO := hide ho
      have Hm := hide hm
      have hpost : SlotPost C B n cap a F p0 b0 Bs L0 w (.returned (.slice al m cl)) wr := by
        unfold SlotPost
        rw [HRS.out, hfin]
        exact ⟨al, cl, m, p, rfl, hm, ho, hcu, rfl, by omega, .inl hpn, hmp, hmb, hbel⟩
      have HPO := hide hpost
      by_cases hlt : i < K
      · have hb : b = true := by
          by_cases hb : b = true
          · exact hb
          · exact absurd ⟨hlt, by simpa using hb⟩ hgo
        subst hb
        clear hfin hcu ho hm hr hgo hpost hmb
        go_wp2_with fail
        go_ret
        exact HPO.out
      · clear hfin hcu ho hm hr hgo hpost hmb
        go_wp2_with fail
        go_ret
        exact HPO.out
end Go.Proofs.YtpdoacfiiledcaaGreatDoor.Pak

set_option linter.unusedVariables false
set_option maxRecDepth 4000
namespace Go.Proofs.YtpdoacfiiledcaaGreatDoor.Pak
open Go.RowKit Go.Proofs.YtpdoacfiiledcaaGreatDoor Go.Proofs.YtpdoacfiiledcaaGreatDoor.Spl SiftM

theorem filter_split {α : Type} (f : α → Nat) (k : Nat) : ∀ L : List α, (L.filter fun s => decide (f s < k + 1)).length = (L.filter fun s => decide (f s < k)).length + (L.filter fun s => decide (f s = k)).length
  | [] => rfl
  | s :: L => by
    have ih := filter_split f k L
    simp only [List.filter_cons]
    by_cases h1 : f s < k
    · rw [if_pos (by simp; omega), if_pos (by simp; omega), if_neg (by simp; omega)]
      simp; omega
    · by_cases h2 : f s = k
      · rw [if_pos (by simp; omega), if_neg (by simp; omega), if_pos (by simp; omega)]
        simp; omega
      · rw [if_neg (by simp; omega), if_neg (by simp; omega), if_neg (by simp; omega)]
        exact ih
theorem pigeon {α : Type} (f : α → Nat) (L : List α) : ∀ k, (∀ i, i < k → ∃ s ∈ L, f s = i) → k ≤ (L.filter fun s => decide (f s < k)).length
  | 0, _ => Nat.zero_le _
  | k + 1, h => by
    have ih := pigeon f L k (fun i hi => h i (by omega))
    obtain ⟨s, hs, e⟩ := h k (by omega)
    have hpos : 0 < (L.filter fun s => decide (f s = k)).length := List.length_pos_of_mem (List.mem_filter.2 ⟨hs, by simpa using e⟩)
    rw [filter_split]; omega
theorem pigeon_le {α : Type} (f : α → Nat) (L : List α) (k : Nat) (h : ∀ i, i < k → ∃ s ∈ L, f s = i) : k ≤ L.length := Nat.le_trans (pigeon f L k h) (List.length_filter_le _ _)

theorem sl3_get : ∀ (L : List Sl) (i : Nat) (h : i < L.length), (sl3 L)[i * 3]? = some (.int .i64 (L[i].1 : Int)) ∧ (sl3 L)[i * 3 + 1]? = some (.int .i64 (L[i].2.1 : Int)) ∧ (sl3 L)[i * 3 + 2]? = some (.string ⟨L[i].2.2.toArray⟩)
  | x :: r, 0, h => by simp [sl3]
  | x :: r, i + 1, h => by
    have ih := sl3_get r i (by simpa using h)
    have e : sl3 (x :: r) = .int .i64 (x.1 : Int) :: .int .i64 (x.2.1 : Int) :: .string ⟨x.2.2.toArray⟩ :: sl3 r := by simp [sl3]
    rw [e, show (i + 1) * 3 = i * 3 + 3 by omega, show i * 3 + 3 + 1 = i * 3 + 1 + 3 by omega, show i * 3 + 3 + 2 = i * 3 + 2 + 3 by omega]
    simpa using ih

def hitS (d p : Nat) (s : Sl) : Bool := decide (s.1 = d) && decide (s.2.1 = p)
theorem rwords_step (L : List Sl) (d f p : Nat) : rwords L d (f + 1) p = match L.find? (hitS d p) with | some s => s.2.2 :: rwords L d f (p + 1) | none => [] := rfl

def goV : Value → Nat
  | .bool true => 1
  | _ => 0
set_option maxHeartbeats 1000000 in
set_option maxRecDepth 100000 in
theorem rwordsOf_any (Bs : Nat) (al : Option Addr) (cl m : Nat) (L : List Sl) (d : Nat) (w : World) (hl : w.ownsRow Bs 466 3 (.slice al m cl) m (sl3 L)) (hm : L.length = m) (hm2 : m ≤ 5000000) :
    Calls Tryz.prog 298 #[.slice al m cl, .int .i64 d] w fun e w' => ∃ (a : Option Addr) (c n : Nat), (rwords L d (m + 1) 0).length = n ∧ e = .returned (.slice a n c) ∧ w'.ownsRow w.heap.size 9 1 (.slice a n c) n (strV (rwords L d (m + 1) 0)) ∧ Kp [] w w' := by
  obtain ⟨i9, hi9, hz0, hz1, hz2⟩ := info_parts Tryz.info9
  obtain ⟨hf1, hf2, hf3, hf4⟩ := halves hl
  have hlb : ∀ g, al = some ⟨g, 0, none⟩ → g < w.heap.size := fun g e => (hl.lt g (by rw [e]; rfl)).2
  have HF1 := hide hf1
  have HF2 := hide hf2
  have HF4 := hide hf4
  have HLB := hide hlb
  have Hm := hide hm
  obtain ⟨R, hR⟩ : ∃ R, rwords L d (m + 1) 0 = R := ⟨_, rfl⟩
  rw [hR]
  have HR := hide hR
  clear hl hf1 hf2 hf4 hm hlb hR hf3
  go_enter Tryz.func298, Tryz.ntmps298
  go_wp2_with fail
  go_loopw [5, 6] (fun wv gv wr => ∃ (k : Nat) (ws : List (List UInt8)) (a : Option Addr) (c : Nat) (go : Bool), wv = .slice a k c ∧ gv = .bool go ∧ ws.length = k ∧ k ≤ m ∧ (∀ i, i < k → ∃ s ∈ L, s.2.1 = i) ∧ (go = true → ws ++ rwords L d (m + 1 - k) k = R) ∧ (go = false → ws = R) ∧ wr.ownsRow w.heap.size 9 1 (.slice a k c) k (strV ws) ∧ Kp [] w wr) (fun wv gv _ => goV gv + 2 * (m + 1 - lenV wv))
  case atStart => exact ⟨0, [], none, 0, true, rfl, rfl, rfl, by omega, fun i hi => absurd hi (by omega), fun _ => HR.out, fun h => by simp at h, World.ownsRow_nil _ _ _ _, Kp.refl _ _⟩
  case round =>
    obtain ⟨k, ws, a, c, go, rfl, rfl, hws, hkm, hpg, hgo, hst, ho, hkp⟩ := hrel
    cases go with
    | false =>
      have he := hst rfl
      subst he
      have HO := hide ho
      have HW := hide hws
      clear hpg hgo hst ho hws
      go_wp2_with fail
      go_ret
      exact ⟨a, c, k, HW.out, rfl, HO.out, hkp⟩
    | true =>
      have hr := hgo rfl
      obtain ⟨fu, hfu⟩ : ∃ fu, m + 1 - k = fu + 1 := ⟨m - k, by omega⟩
      rw [hfu, rwords_step] at hr
      have HRR := hide hr
      have HO := hide ho
      have HW := hide hws
      have HPG := hide hpg
      clear hpg hgo hst ho hws hr
      go_wp2_with fail
      go_loopw [5, 6, 7] (fun wv gv iv w2 => ∃ i : Nat, wv = .slice a k c ∧ gv = .bool false ∧ i ≤ m ∧ iv = .int .i64 i ∧ (∀ s ∈ L.take i, hitS d k s = false) ∧ w2 = wr) (fun _ _ iv _ => m - (intOf iv).toNat)
      case atStart => exact ⟨0, rfl, rfl, by omega, rfl, by simp, rfl⟩
      case round =>
        obtain ⟨i, rfl, rfl, hi, rfl, hno, rfl⟩ := hrel
        by_cases hlt : i < m
        · have hiL : i < L.length := by rw [Hm.out]; exact hlt
          obtain ⟨g, rfl⟩ : ∃ g, al = some ⟨g, 0, none⟩ := by
            cases hal : al with
            | none => have := (HF2.out hal).1; omega
            | some y => obtain ⟨g, rfl⟩ := HF1.out y hal; exact ⟨g, rfl⟩
          obtain ⟨s0, s1, s2⟩ := sl3_get L i hiL
          have q0 := hkp.cellv (HF4.out g rfl _ _ s0) (by simp)
          have q1 := hkp.cellv (HF4.out g rfl _ _ s1) (by simp)
          have q2 := hkp.cellv (HF4.out g rfl _ _ s2) (by simp)
          have hgl : g < wr.heap.size := by have := HLB.out g rfl; have := hkp.size; omega
          have htk := take_snocL L i hiL
          have hmem : L[i] ∈ L := List.getElem_mem hiL
          have hfind : hitS d k L[i] = true → L.find? (hitS d k) = some L[i] := by
            intro h
            rw [List.find?_eq_some_iff_append]
            refine ⟨h, L.take i, L.drop (i + 1), ?_, ?_⟩
            · rw [← List.drop_eq_getElem_cons hiL, List.take_append_drop]
            · intro s hs
              simp [hno s hs]
          obtain ⟨s, hs⟩ : ∃ s, L[i] = s := ⟨_, rfl⟩
          rw [hs] at q0 q1 q2 htk hfind hmem
          obtain ⟨sd, sp', sw⟩ := s
          simp only at q0 q1 q2
          have HNO := hide hno
          have HTK := hide htk
          have HFI := hide hfind
          have HME := hide hmem
          clear hno htk hfind hs s0 s1 s2 hmem
          by_cases hhit : sd = d ∧ sp' = k
          · obtain ⟨rfl, rfl⟩ := hhit
            have hf := HFI.out (by simp [hitS])
            have hr2 := HRR.out
            rw [hf] at hr2
            simp only at hr2
            have hzk := hkp.size
            have hk1 : sp' + 1 ≤ m := by
              rw [← Hm.out]
              refine pigeon_le (fun s : Sl => s.2.1) L (sp' + 1) ?_
              intro j hj
              by_cases e : j = sp'
              · exact ⟨_, HME.out, e.symm⟩
              · exact HPG.out j (by omega)
            have hpg2 : ∀ j, j < sp' + 1 → ∃ s ∈ L, s.2.1 = j := by
              intro j hj
              by_cases e : j = sp'
              · exact ⟨_, HME.out, e.symm⟩
              · exact HPG.out j (by omega)
            have HP2 := hide hpg2
            have HR2 := hide hr2
            clear hf hr2 hpg2 HFI HNO
            go_wp2_with (first
              | (at_builtin; refine wpList_append_own_at _ rfl _ _ 67 rfl w.heap.size 9 i9 (.string ⟨#[]⟩) 1 16 Tryz.underlying67 hi9 hz0 hz1 hz2 rfl (by decide) _ _ _ rfl (HO.out.alloc _) ⟨wr.heap.size, 0, none⟩ 1 1 [.string ⟨sw.toArray⟩] rfl rfl (one_new _ _ _) ?c2 ?c3 ?c4 ?c5 ?_)
              | fail)
            case c2 => intro u hu; simp at hu; subst hu; rfl
            case c3 => unfold maxLen; omega
            case c4 => omega
            case c5 => simp; omega
            intro v2 w2 ho2 hgrow _ _
            obtain ⟨a2, c2, rfl, _⟩ := owns_forms ho2
            have k2 : Kp (Value.slice a sp' c).ownBlock.toList wr w2 := ((Kp.refl _ _).alloc _).grown hgrow (fun j hj => .inl (by simp [hj]))
            have kf : Kp [] w w2 := hkp.trans k2 (fun y hy => .inr (HO.out.lt y (by simpa using hy)).1)
            have ho2' : w2.ownsRow w.heap.size 9 1 (.slice a2 (sp' + 1) c2) (sp' + 1) (strV (ws ++ [sw])) := by
              rw [strV_snoc]; exact ho2
            have HO2 := hide ho2'
            have hfu2 : m + 1 - (sp' + 1) = fu := by omega
            clear ho2 ho2' hgrow k2 HO q0 q1 q2
            go_wp2_with fail
            go_roundw
            case rel => exact ⟨sp' + 1, ws ++ [sw], a2, c2, true, rfl, rfl, by rw [List.length_append, HW.out]; rfl, hk1, HP2.out, fun _ => by rw [hfu2, List.append_assoc]; exact HR2.out, fun h => by simp at h, HO2.out, kf⟩
            case measure => simp [lenV, goV]; omega
          · have hmiss : hitS d k (sd, sp', sw) = false := by
              unfold hitS
              simp only [Bool.and_eq_false_iff, decide_eq_false_iff_not]
              by_cases h1 : sd = d
              · exact .inr (fun h2 => hhit ⟨h1, h2⟩)
              · exact .inl h1
            have hno2 : ∀ s ∈ L.take (i + 1), hitS d k s = false := by
              rw [HTK.out]
              intro s hs
              rcases List.mem_append.1 hs with hs | hs
              · exact HNO.out s hs
              · simp at hs; rw [hs]; exact hmiss
            have HN2 := hide hno2
            clear hno2 hmiss HFI HNO q2
            by_cases h1 : sd = d
            · subst h1
              have h2 : ((sp' : Int) == (k : Int)) = false := by
                have : sp' ≠ k := fun e => hhit ⟨rfl, e⟩
                simp; omega
              clear hhit
              go_wp2_with fail
              go_roundw
              case rel => exact ⟨i + 1, rfl, rfl, by omega, by go_num, HN2.out, trivial⟩
              case measure => simp [intOf]; omega
            · have h2 : ((sd : Int) == (d : Int)) = false := by simp; omega
              clear hhit q1
              go_wp2_with fail
              go_roundw
              case rel => exact ⟨i + 1, rfl, rfl, by omega, by go_num, HN2.out, trivial⟩
              case measure => simp [intOf]; omega
        · have hall : L.find? (hitS d k) = none := by
            rw [List.find?_eq_none]
            intro s hs
            have := hno s (by rw [List.take_of_length_le (by rw [Hm.out]; omega)]; exact hs)
            simp [this]
          have hr2 := HRR.out
          rw [hall] at hr2
          simp only [List.append_nil] at hr2
          have HR2 := hide hr2
          clear hall hr2 hno
          go_wp2_with fail
          go_roundw
          case rel => exact ⟨k, ws, a, c, false, rfl, rfl, HW.out, hkm, HPG.out, fun h => by simp at h, fun _ => HR2.out, HO.out, hkp⟩
          case measure => simp [lenV, goV]
end Go.Proofs.YtpdoacfiiledcaaGreatDoor.Pak

set_option linter.unusedVariables false
set_option maxRecDepth 4000
namespace Go.Proofs.YtpdoacfiiledcaaGreatDoor.Pak
open Go.RowKit Go.Proofs.YtpdoacfiiledcaaGreatDoor Go.Proofs.YtpdoacfiiledcaaGreatDoor.Spl SiftM

def rowD (ids : List Nat) (vF : Nat → Value) : Nat → List Value
  | 0 => []
  | k + 1 => rowD ids vF k ++ [.int .i64 (ids.getD k 0 : Int), vF k, .bool false]
theorem rowD_len (ids : List Nat) (vF : Nat → Value) : ∀ k, (rowD ids vF k).length = k * 3
  | 0 => rfl
  | k + 1 => by simp [rowD, rowD_len ids vF k]; omega
theorem rowD_congr (ids ids' : List Nat) (vF vF' : Nat → Value) : ∀ k, (∀ d, d < k → ids.getD d 0 = ids'.getD d 0 ∧ vF d = vF' d) → rowD ids vF k = rowD ids' vF' k
  | 0, _ => rfl
  | k + 1, h => by
    rw [rowD, rowD, rowD_congr ids ids' vF vF' k (fun d hd => h d (by omega)), (h k (by omega)).1, (h k (by omega)).2]
theorem rowD_set (ids : List Nat) (vF : Nat → Value) (i : Nat) (u : Value) : ∀ k, i < k → (rowD ids vF k).set (i * 3 + 1) u = rowD ids (upd vF i u) k
  | 0, h => by omega
  | k + 1, h => by
    have hl := rowD_len ids vF k
    by_cases e : i = k
    · subst e
      rw [rowD, rowD, List.set_append_right _ _ (by omega), hl, show i * 3 + 1 - i * 3 = 1 by omega]
      rw [rowD_congr ids ids (upd vF i u) vF i (fun d hd => ⟨rfl, by unfold upd; rw [if_neg (by omega)]⟩)]
      simp [upd]
    · rw [rowD, rowD, List.set_append_left _ _ (by omega), rowD_set ids vF i u k (by omega)]
      congr 3
      unfold upd; rw [if_neg (by omega)]
theorem rowD_get (ids : List Nat) (vF : Nat → Value) : ∀ k i, i < k → (rowD ids vF k)[i * 3]? = some (.int .i64 (ids.getD i 0 : Int)) ∧ (rowD ids vF k)[i * 3 + 1]? = some (vF i)
  | 0, i, h => by omega
  | k + 1, i, h => by
    have hl := rowD_len ids vF k
    by_cases e : i = k
    · subst e
      rw [rowD, List.getElem?_append_right (by omega), List.getElem?_append_right (by omega), hl]
      simp
    · have ih := rowD_get ids vF k i (by omega)
      rw [rowD, List.getElem?_append_left (by omega), List.getElem?_append_left (by omega)]
      exact ih
theorem rowD_tx3 (ids : List Nat) (vF : Nat → Value) : ∀ k, rowD ids vF k = tx3 ((List.range k).map fun d => (ids.getD d 0, vF d))
  | 0 => rfl
  | k + 1 => by rw [rowD, rowD_tx3 ids vF k, List.range_succ, List.map_append, tx3_append]; simp [tx3]

def emptyV : Nat → Value := fun _ => .slice none 0 0
/-- The document's docs, by functions. -/
structure DocsF (w : World) (base : Nat) (v : Value) (ids : List Nat) (N : Nat) (wF : Nat → List (List UInt8)) (vF : Nat → Value) : Prop where
  row : w.ownsRow base 266 3 v N (rowD ids vF N)
  each : ∀ d, d < N → w.ownsRow base 9 1 (vF d) (wF d).length (strV (wF d))
theorem DocsF.docs {w : World} {base N : Nat} {v : Value} {ids : List Nat} {wF : Nat → List (List UInt8)} {vF : Nat → Value} (h : DocsF w base v ids N wF vF) : DocsIs w base v ((List.range N).map fun d => (ids.getD d 0, wF d)) ((List.range N).map vF) := by
  refine ⟨by simp, ?_, ?_⟩
  · have e : (((List.range N).map fun d => (ids.getD d 0, wF d)).map Prod.fst).zip ((List.range N).map vF) = (List.range N).map fun d => (ids.getD d 0, vF d) := by
      rw [List.map_map]
      apply List.ext_getElem
      · simp
      · intro i h1 h2; simp
    rw [e, ← rowD_tx3]
    simpa using h.row
  · intro i h1 h2
    have := h.each i (by simpa using h1)
    simpa using this
theorem DocsF.kp {w w' : World} {base N : Nat} {v : Value} {ids : List Nat} {wF : Nat → List (List UInt8)} {vF : Nat → Value} {S : List Nat} (h : DocsF w base v ids N wF vF) (k : Kp S w w') (hv : ∀ x ∈ S, v.ownBlock ≠ some x) (hvs : ∀ d, d < N → ∀ x ∈ S, (vF d).ownBlock ≠ some x) : DocsF w' base v ids N wF vF :=
  ⟨k.owns h.row (fun g hg hx => hv g hx hg), fun d hd => k.owns (h.each d hd) (fun g hg hx => hvs d hd g hx hg)⟩
/-- Where only blocks of other kinds are turned. -/
theorem DocsF.kc {w w' : World} {base N C : Nat} {v : Value} {ids : List Nat} {wF : Nat → List (List UInt8)} {vF : Nat → Value} {cs : Array Value} {t : TypeId} {fr : Nat × Nat} (h : DocsF w base v ids N wF vF) (k : Kp [C] w w') (hC : w.heap[C]? = some (.cells cs t fr)) (h1 : t ≠ 266) (h2 : t ≠ 9) : DocsF w' base v ids N wF vF :=
  h.kp k (by intro x hx; simp at hx; subst hx; exact owns_ne h.row hC h1) (by intro d hd x hx; simp at hx; subst hx; exact owns_ne (h.each d hd) hC h2)
theorem DocsF.put {w w' : World} {base N g cap i : Nat} {lv : Value} {ids : List Nat} {wF : Nat → List (List UInt8)} {vF : Nat → Value} {ws : List (List UInt8)} (h : DocsF w base (.slice (some ⟨g, 0, none⟩) N cap) ids N wF vF) (hi : i < N) (hl : w.ownsRow base 9 1 lv ws.length (strV ws)) :
    DocsF (w.setCell ⟨g, i * 3 + 1, none⟩ lv) base (.slice (some ⟨g, 0, none⟩) N cap) ids N (upd wF i ws) (upd vF i lv) := by
  have k : Kp [g] w (w.setCell ⟨g, i * 3 + 1, none⟩ lv) := (Kp.refl [g] w).setCell (p := ⟨g, i * 3 + 1, none⟩) (.inl (by simp)) _
  have hne : ∀ {n : Nat} {u : Value} {xs : List Value}, w.ownsRow base 9 1 u n xs → ∀ y, u.ownBlock = some y → y ∉ [g] := by
    intro n u xs ho y hy hx
    simp at hx; subst hx
    exact owns_disj h.row ho (by decide) y rfl hy
  refine ⟨?_, ?_⟩
  · have := owns_set h.row (j := i * 3 + 1) (by omega) lv
    rw [rowD_set ids vF i lv N hi] at this
    exact this
  · intro d hd
    unfold upd
    by_cases e : d = i
    · simp only [e, if_true]; exact k.owns hl (hne hl)
    · simp only [e, if_false]; exact k.owns (h.each d hd) (hne (h.each d hd))
end Go.Proofs.YtpdoacfiiledcaaGreatDoor.Pak

set_option linter.unusedVariables false
set_option maxRecDepth 4000
namespace Go.Proofs.YtpdoacfiiledcaaGreatDoor.Pak
open Go.RowKit Go.Proofs.YtpdoacfiiledcaaGreatDoor Go.Proofs.YtpdoacfiiledcaaGreatDoor.Spl SiftM

theorem kp_of_kb {t : TypeId} {a w w' : World} {C : Nat} (h : Kp [] a w) (k : Kb t [C] a.heap.size w w') (hC : a.heap.size ≤ C) : Kp [] a w' :=
  ⟨k.os.trans h.os, k.tape.trans h.tape, k.output.trans h.output, Nat.le_trans h.size k.size, fun i hi hx => by
    have h1 := h.block i hi hx
    have hlt : i < w.heap.size := Nat.lt_of_lt_of_le hi h.size
    have h2 := k.block i _ (by simp; omega) (Array.getElem?_eq_getElem hlt) (.inl hi)
    rw [h2, ← h1, Array.getElem?_eq_getElem hlt]⟩
theorem rowD_snoc (ids : List Nat) (k x : Nat) (h : ids.length = k) : rowD (ids ++ [x]) emptyV (k + 1) = rowD ids emptyV k ++ [.int .i64 (x : Int), .slice none 0 0, .bool false] := by
  rw [rowD, rowD_congr (ids ++ [x]) ids emptyV emptyV k (fun d hd => ⟨by simp [List.getD, List.getElem?_append_left (show d < ids.length by omega)], rfl⟩)]
  congr 2
  subst h
  simp [List.getD]
theorem DocsF.kb {w w' : World} {base N C : Nat} {v : Value} {ids : List Nat} {wF : Nat → List (List UInt8)} {vF : Nat → Value} {cs : Array Value} {fr : Nat × Nat} (h : DocsF w base v ids N wF vF) (k : Kb 466 [C] base w w') (hC : w.heap[C]? = some (.cells cs 394 fr)) : DocsF w' base v ids N wF vF :=
  ⟨k.owns h.row (by decide) (fun x hx => by simp at hx; subst hx; exact owns_ne h.row hC (by decide)), fun d hd => k.owns (h.each d hd) (by decide) (fun x hx => by simp at hx; subst hx; exact owns_ne (h.each d hd) hC (by decide))⟩

def wFi (L : List Sl) (m i : Nat) : Nat → List (List UInt8) := fun d => if d < i then rwords L d (m + 1) 0 else []
theorem wFi_upd (L : List Sl) (m i : Nat) : upd (wFi L m i) i (rwords L i (m + 1) 0) = wFi L m (i + 1) := by
  funext d
  unfold upd wFi
  by_cases e : d = i
  · subst e; simp
  · rw [if_neg e]
    by_cases h : d < i
    · rw [if_pos h, if_pos (by omega)]
    · rw [if_neg h, if_neg (by omega)]

/-- What a call of guess leaves. -/
def GuessPost (F : List UInt8) (w : World) (e : Ending) (w' : World) : Prop :=
  Kp [] w w' ∧ (rguess F = none ∧ e = .returned (.tuple #[.slice none 0 0, .bool false]) ∨
    ∃ (T : List Tx) (a : Option Addr) (c N : Nat) (vs : List Value), rguess F = some T ∧ T.length = N ∧ e = .returned (.tuple #[.slice a N c, .bool true]) ∧ DocsIs w' w.heap.size (.slice a N c) T vs)

theorem rids_len : ∀ (k nx : Nat) (ids : List Nat) (l : List UInt8) (b : Bool), (rids k nx ids l b).1.length ≤ ids.length + k
  | 0, nx, ids, l, b => by simp [rids]
  | k + 1, nx, ids, l, b => by
    rw [rids]
    split
    · simp
    · have := rids_len k (nx + (rnum l b).1 + 1) (ids ++ [nx + (rnum l b).1]) (rnum l b).2.1 (rnum l b).2.2
      simp at this; omega

theorem num_bnd {n p p' : Nat} {b : Bool} (hp : p ≤ n + 1) (hq : p' ≤ n ∨ p' = p) (ha : p < p' ∨ b = true) : p' ≤ n + 1 ∧ (b = false → p' ≤ n) := by
  refine ⟨by omega, fun h => ?_⟩
  subst h
  simp at ha
  omega

set_option maxHeartbeats 1000000 in
set_option maxRecDepth 100000 in
theorem rguess_any (n cap : Nat) (a : Option Addr) (F : List UInt8) (w : World) (hv : Vw w w.heap.size a F) (hn : F.length = n) (hn2 : n ≤ 4000000) (hc : n ≤ cap) :
    Calls Tryz.prog 182 #[.slice a n cap] w (GuessPost F w) := by
  obtain ⟨i0, hi0, hz0, hz1, hz2⟩ := info_parts info148
  obtain ⟨C, hC⟩ : ∃ C, w.heap.size = C := ⟨_, rfl⟩
  have HV := hide hv
  have Hn := hide hn
  have HC := hide hC
  clear hv hn
  go_enter Tryz.func182, Tryz.ntmps182
  go_wp2_with fail
  have h0 : Cu (w.alloc (Obj.cells #[.slice a n cap, .int .i64 1, .bool false] 394)) C C a n cap F 1 false := ⟨by rw [← HC.out]; exact heap_alloc_new _ _, vw_kp (by have := HV.out; rw [HC.out] at this; exact this) ((Kp.refl [] w).alloc _) (by simp), Nat.le_refl _⟩
  have k0 : Kp [] w (w.alloc (Obj.cells #[.slice a n cap, .int .i64 1, .bool false] 394)) := (Kp.refl [] w).alloc _
  refine (rnumber_any C C n cap a F 1 false _ h0 Hn.out hn2 (by omega)).mono ?_
  rintro e w1 ⟨p1, rfl, hc1, hd1, hp1, hq1, ha1, k1⟩
  have hl1 := rnum_lt (F.drop 1) false
  have kk1 : Kp [] w w1 := k0.trans k1 (fun x hx => .inr (by simp at hx; omega))
  obtain ⟨N1, hN1⟩ : ∃ N1, rnum (F.drop 1) false = N1 := ⟨_, rfl⟩
  rw [hN1] at hc1 hd1 ha1 hl1
  rw [hN1]
  rw [Hn.out] at hq1
  obtain ⟨hb1, hb1'⟩ := num_bnd (by omega) hq1 ha1
  obtain ⟨K, hK⟩ : ∃ K, N1.1 = K := ⟨_, rfl⟩
  obtain ⟨b1, hbb⟩ : ∃ b1, N1.2.2 = b1 := ⟨_, rfl⟩
  obtain ⟨RI, hRI⟩ : ∃ RI, rids K 0 [] (F.drop p1) b1 = RI := ⟨_, rfl⟩
  have HG : Hid (rguess F = if 60 < K then none else
      if (rmany (rnum RI.2.1 RI.2.2).1 ([], (rnum RI.2.1 RI.2.2).2.1, (rnum RI.2.1 RI.2.2).2.2)).2.2 = true then none else some ((List.range RI.1.length).map fun d => (RI.1.getD d 0, rwords (rmany (rnum RI.2.1 RI.2.2).1 ([], (rnum RI.2.1 RI.2.2).2.1, (rnum RI.2.1 RI.2.2).2.2)).1 d ((rmany (rnum RI.2.1 RI.2.2).1 ([], (rnum RI.2.1 RI.2.2).2.1, (rnum RI.2.1 RI.2.2).2.2)).1.length + 1) 0))) := by
    show _ = _
    unfold rguess
    simp only [hN1, hK, hbb, ← hd1, hRI]
  rw [hbb] at hc1 hb1'
  rw [hK] at hl1
  rw [hK]
  have HRI := hide hRI
  have HC1 := hide hc1
  have HB1 := hide hb1'
  clear hc1 hd1 hN1 hRI hK hbb h0 k0 k1 ha1 hq1 hb1' HV hp1
  by_cases hbig : 60 < K
  · have hg := HG.out
    rw [if_pos hbig] at hg
    have HGG := hide hg
    clear hg
    go_wp2_with fail
    go_ret2
    exact ⟨kk1, .inl ⟨HGG.out, rfl⟩⟩
  have hg := HG.out
  rw [if_neg hbig] at hg
  have HGG := hide hg
  have hK60 : K ≤ 60 := by omega
  clear hg HG
  go_wp2_with fail
  go_loopw [6, 7, 8] (fun dv xv iv wr => ∃ (i nx : Nat) (ids : List Nat) (al : Option Addr) (cl p : Nat) (b : Bool), i ≤ K ∧ iv = .int .i64 i ∧ xv = .int .i64 ((nx : Int) - 1) ∧ dv = .slice al i cl ∧ ids.length = i ∧ nx ≤ i * 268435456 ∧ rids (K - i) nx ids (F.drop p) b = RI ∧ p ≤ n + 1 ∧ (b = false → p ≤ n) ∧ Cu wr C C a n cap F p b ∧ wr.ownsRow C 266 3 (.slice al i cl) i (rowD ids emptyV i) ∧ Kp [] w wr) (fun _ _ iv _ => K - (intOf iv).toNat)
  case atStart => exact ⟨0, 0, [], none, 0, p1, b1, by omega, rfl, rfl, rfl, rfl, by omega, HRI.out, hb1, HB1.out, HC1.out, World.ownsRow_nil _ _ _ _, kk1⟩
  case round =>
    clear HC1 HB1 HRI kk1 hb1
    obtain ⟨i, nx, ids, al, cl, p, b, hi, rfl, rfl, rfl, hids, hnx, hr, hpn, hpb, hcu, ho, hkp⟩ := hrel
    obtain ⟨c0, c1, c2, f1, f2⟩ := hcu.cells
    have hcl := heap_lt hcu.blk
    by_cases hgo : i < K ∧ b = false
    · obtain ⟨hlt, rfl⟩ := hgo
      obtain ⟨j, hj⟩ : ∃ j, K - i = j + 1 := ⟨K - i - 1, by omega⟩
      rw [hj, rids, if_neg (by simp)] at hr
      have HNU := hide (rnumber_any C C n cap a F p false wr hcu Hn.out hn2 hpn)
      have hl2 := rnum_lt (F.drop p) false
      have HR := hide hr
      have HCU := hide hcu
      have HO := hide ho
      have HID := hide hids
      clear hr hcu ho hids hpb
      go_wp2_with fail
      refine HNU.out.mono ?_
      rintro e w2 ⟨p2, rfl, hc2, hd2, hp2, hq2, ha2, k2⟩
      obtain ⟨N2, hN2⟩ : ∃ N2, rnum (F.drop p) false = N2 := ⟨_, rfl⟩
      rw [hN2] at hc2 hd2 ha2 hl2
      rw [hN2]
      rw [Hn.out] at hq2
      obtain ⟨hb2, hb2'⟩ := num_bnd hpn hq2 ha2
      have HR2 : Hid (rids j (nx + N2.1 + 1) (ids ++ [nx + N2.1]) (F.drop p2) N2.2.2 = RI) := by
        show _ = _
        rw [← HR.out, hN2, hd2]
      obtain ⟨q, hq⟩ : ∃ q, N2.1 = q := ⟨_, rfl⟩
      obtain ⟨b2, hbb2⟩ : ∃ b2, N2.2.2 = b2 := ⟨_, rfl⟩
      rw [hq, hbb2] at HR2
      rw [hq] at hl2
      rw [hbb2] at hc2 hb2'
      rw [hq]
      have hz2' := k2.size
      have HO2 := hide (k2.owns HO.out (fun g hg hx => by simp at hx; subst hx; exact owns_ne HO.out HCU.out.blk (by decide) hg))
      have kk2 : Kp [] w w2 := hkp.trans k2 (fun x hx => .inr (by simp at hx; omega))
      have HC2 := hide hc2
      have HB2 := hide hb2'
      have hbd : nx + q ≤ 72057594037927936 := by omega
      have hzc : C < w2.heap.size := by omega
      clear hc2 hd2 k2 hN2 hq hbb2 HNU HCU HO HR c0 c1 c2 f1 f2 ha2 hq2 hb2' hkp hp2
      go_wp2_with (first
        | (at_builtin; refine wpList_append_own_at _ rfl _ _ 180 rfl C 266 i0 (.agg #[.int .i64 0, .slice none 0 0, .bool false]) 3 40 Tryz.underlying180 hi0 hz0 hz1 hz2 rfl (by decide) _ _ _ rfl (HO2.out.alloc _) ⟨w2.heap.size, 0, none⟩ 1 1 [.int .i64 ((nx : Int) + (q : Int)), .slice none 0 0, .bool false] rfl rfl (World.news_of_block (cs := #[.int .i64 ((nx : Int) + (q : Int)), .slice none 0 0, .bool false]) (t := 266) (fr := (0, 0)) (heap_alloc_new _ _)) ?c2 ?c3 ?c4 ?c5 ?_)
        | fail)
      case c2 => intro u hu; simp at hu; rcases hu with rfl | rfl | rfl <;> rfl
      case c3 => unfold maxLen; omega
      case c4 => omega
      case c5 => simp; omega
      intro v3 w3 ho3 hgrow _ _
      obtain ⟨a3, c3, rfl, _⟩ := owns_forms ho3
      have k3 : Kp (Value.slice al i cl).ownBlock.toList w2 w3 := ((Kp.refl _ _).alloc _).grown hgrow (fun j hj => .inl (by simp [hj]))
      have hge3 : ∀ x ∈ (Value.slice al i cl).ownBlock.toList, C ≤ x := fun x hx => (HO2.out.lt x (by simpa using hx)).1
      have HC3 := hide (HC2.out.kp k3 (fun hx => owns_ne HO2.out HC2.out.blk (by decide) (by simpa using hx)) hge3)
      have kk3 : Kp [] w w3 := kk2.trans k3 (fun x hx => .inr (by have := hge3 x hx; omega))
      have ho3' : w3.ownsRow C 266 3 (.slice a3 (i + 1) c3) (i + 1) (rowD (ids ++ [nx + q]) emptyV (i + 1)) := by
        rw [rowD_snoc ids i (nx + q) HID.out]
        have e1 : (((nx + q : Nat)) : Int) = (nx : Int) + (q : Int) := by omega
        simp only [e1]
        exact ho3
      have HO3 := hide ho3'
      have hj' : K - (i + 1) = j := by omega
      clear ho3 ho3' hgrow k3 HO2 HC2 kk2 hge3
      go_wp2_with fail
      go_roundw
      case rel => exact ⟨i + 1, nx + q + 1, ids ++ [nx + q], a3, c3, p2, b2, by omega, by go_num, by go_num, rfl, by rw [List.length_append, HID.out]; rfl, by omega, by rw [hj']; exact HR2.out, hb2, HB2.out, HC3.out, HO3.out, kk3⟩
      case measure => simp [intOf]; omega
    · have hfin : RI = (ids, F.drop p, b) := by
        rw [← hr]
        by_cases hb : b = true
        · subst hb
          cases K - i with
          | zero => rfl
          | succ j => rw [rids, if_pos rfl]
        · have : K - i = 0 := by
            have hb' : b = false := by simpa using hb
            have hnl : ¬ i < K := fun h => hgo ⟨h, hb'⟩
            omega
          rw [this]; rfl
      have hg := HGG.out
      rw [hfin] at hg
      simp only at hg
      rw [hids] at hg
      have HG2 := hide hg
      have HNU := hide (rnumber_any C C n cap a F p b wr hcu Hn.out hn2 hpn)
      have HCU := hide hcu
      have HO := hide ho
      have HID := hide hids
      have hex : (i < K ∧ b = true) ∨ ¬ i < K := by
        by_cases h : i < K
        · left
          refine ⟨h, ?_⟩
          by_cases hb : b = true
          · exact hb
          · exact absurd ⟨h, by simpa using hb⟩ hgo
        · exact .inr h
      clear hfin hg hcu ho hids hr hgo hpb HGG
      rcases hex with ⟨hlt, rfl⟩ | hlt
      · skip
        go_wp2_with fail
        refine HNU.out.mono ?_
        rintro e w2 ⟨p2, rfl, hc2, hd2, hp2, hq2, ha2, k2⟩
        have hl2 := rnum_lt (F.drop p) true
        obtain ⟨N2, hN2⟩ : ∃ N2, rnum (F.drop p) true = N2 := ⟨_, rfl⟩
        have hg2 := HG2.out
        rw [hN2] at hc2 hd2 ha2 hg2
        rw [hN2]
        rw [Hn.out] at hq2
        obtain ⟨hb2, hb2'⟩ := num_bnd hpn hq2 ha2
        replace hl2 : N2.1 < 268435456 := by rw [← hN2]; exact hl2
        have hz2' := k2.size
        have ho2 := k2.owns HO.out (fun g hg hx => by simp at hx; subst hx; exact owns_ne HO.out HCU.out.blk (by decide) hg)
        have kk2 : Kp [] w w2 := hkp.trans k2 (fun x hx => .inr (by simp at hx; omega))
        have hdf : DocsF w2 C (.slice al i cl) ids i (fun _ => []) emptyV := ⟨ho2, fun d hd => World.ownsRow_nil _ _ _ _⟩
        obtain ⟨M, hM⟩ : ∃ M, N2.1 = M := ⟨_, rfl⟩
        obtain ⟨b2, hbb2⟩ : ∃ b2, N2.2.2 = b2 := ⟨_, rfl⟩
        rw [hM, ← hd2, hbb2] at hg2
        rw [hM] at hl2
        rw [hbb2] at hc2 hb2'
        rw [hM]
        obtain ⟨RM, hRM⟩ : ∃ RM, rmany M ([], F.drop p2, b2) = RM := ⟨_, rfl⟩
        rw [hRM] at hg2
        have HG3 := hide hg2
        have HRM := hide hRM
        have HC2 := hide hc2
        have HB2 := hide hb2'
        have HDF := hide hdf
        clear hc2 hd2 ha2 hq2 hb2' hN2 hM hbb2 hRM hg2 hdf ho2 k2 hkp HNU HCU HO c0 c1 c2 f1 f2 hp2 HG2 hz2' hcl
        go_wp2_with fail
        go_loopw [11, 12] (fun lv iv wr => ∃ (t : Nat) (L : List Sl) (al2 : Option Addr) (cl2 m p : Nat) (b : Bool), t ≤ M ∧ iv = .int .i64 t ∧ lv = .slice al2 m cl2 ∧ L.length = m ∧ rmany (M - t) (L, F.drop p, b) = RM ∧ p ≤ n + 1 ∧ (b = false → p ≤ n ∧ m ≤ p) ∧ m ≤ n + 2 ∧ Cu wr C C a n cap F p b ∧ wr.ownsRow C 466 3 (.slice al2 m cl2) m (sl3 L) ∧ DocsF wr C (.slice al i cl) ids i (fun _ => []) emptyV ∧ Kp [] w wr) (fun _ iv _ => M - (intOf iv).toNat)
        case atStart => exact ⟨0, [], none, 0, 0, p2, b2, by omega, rfl, rfl, rfl, HRM.out, hb2, fun h => ⟨HB2.out h, by omega⟩, by omega, HC2.out, World.ownsRow_nil _ _ _ _, HDF.out, kk2⟩
        case round =>
          clear HC2 HB2 HRM HDF kk2 hb2
          obtain ⟨t, L, al2, cl2, m, p, b, ht, rfl, rfl, hm, hr, hpn, hpb, hmn, hcu, ho, hdf, hkp⟩ := hrel
          obtain ⟨c0, c1, c2, f1, f2⟩ := hcu.cells
          have hcl := heap_lt hcu.blk
          have hzk := hkp.size
          by_cases hgo : t < M ∧ b = false
          · obtain ⟨hlt3, rfl⟩ := hgo
            obtain ⟨j, hj⟩ : ∃ j, M - t = j + 1 := ⟨M - t - 1, by omega⟩
            rw [hj, rmany, if_neg (by simp)] at hr
            have HS := hide (rslots_any C C n cap a F p false C al2 cl2 m L wr hcu Hn.out hn2 hc (hpb rfl).1 rfl ho hm (hpb rfl).2 (by omega) (Nat.le_refl _))
            have HR := hide hr
            have HCU := hide hcu
            have HDF := hide hdf
            clear hr hcu ho hm hpb hdf
            go_wp2_with fail
            refine HS.out.mono ?_
            rintro e w3 ⟨al3, cl3, m3, p3, rfl, hm3, ho3, hc3, hd3, hp3, hq3, hmp3, hmb3, k3⟩
            have hr3 := HR.out
            obtain ⟨S, hS⟩ : ∃ S, rslots L (F.drop p) false = S := ⟨_, rfl⟩
            rw [hS] at hm3 ho3 hc3 hd3 hq3 hmb3 hr3
            have HR3 : Hid (rmany j (S.1, F.drop p3, S.2.2) = RM) := by
              show _ = _
              rw [hd3]; exact hr3
            have hp3n : p3 ≤ n + 1 := by rcases hq3 with h | ⟨_, h⟩ <;> omega
            have hpb3 : S.2.2 = false → p3 ≤ n ∧ m3 ≤ p3 := by
              intro h
              refine ⟨?_, hmb3 h⟩
              rcases hq3 with h' | ⟨h', _⟩
              · exact h'
              · rw [h] at h'; simp at h'
            have kk3 : Kp [] w w3 := kp_of_kb hkp (by rw [HC.out]; exact k3) (by omega)
            have HM3 := hide hm3
            have HO3 := hide ho3
            have HC3 := hide hc3
            have HPB3 := hide hpb3
            have HDF3 := hide (HDF.out.kb k3 HCU.out.blk)
            have hj' : M - (t + 1) = j := by omega
            have hm3n : m3 ≤ n + 2 := by omega
            clear hm3 ho3 hc3 hpb3 hr3 hd3 hq3 hmb3 hS HR HCU HDF HS k3 c0 c1 c2 f1 f2 hkp
            go_wp2_with fail
            go_roundw
            case rel => exact ⟨t + 1, S.1, al3, cl3, m3, p3, S.2.2, by omega, by go_num, rfl, HM3.out, by rw [hj']; exact HR3.out, hp3n, HPB3.out, hm3n, HC3.out, HO3.out, HDF3.out, kk3⟩
            case measure => simp [intOf]; omega
          · have hfin : RM = (L, F.drop p, b) := by
              rw [← hr]
              by_cases hb : b = true
              · subst hb
                cases M - t with
                | zero => rfl
                | succ j => rw [rmany, if_pos rfl]
              · have : M - t = 0 := by
                  have hb' : b = false := by simpa using hb
                  have hnl : ¬ t < M := fun h => hgo ⟨h, hb'⟩
                  omega
                rw [this]; rfl
            have hg3 := HG3.out
            rw [hfin] at hg3
            simp only at hg3
            rw [hm] at hg3
            cases b with
            | true =>
              rw [if_pos rfl] at hg3
              have HG4 := hide hg3
              clear hg3 hfin hr hgo hcu ho hdf hm hpb HG3
              by_cases hlt3 : t < M
              · go_wp2_with fail
                go_ret2
                exact ⟨hkp, .inl ⟨HG4.out, rfl⟩⟩
              · go_wp2_with fail
                go_ret2
                exact ⟨hkp, .inl ⟨HG4.out, rfl⟩⟩
            | false =>
              have hlt3 : ¬ t < M := fun h => hgo ⟨h, rfl⟩
              rw [if_neg (by simp)] at hg3
              have HG4 := hide hg3
              have HO := hide ho
              have HDF := hide hdf
              have Hm := hide hm
              clear hg3 hfin hr hgo hcu ho hdf hm hpb HG3
              go_wp2_with fail
              go_loopw [13] (fun iv wr => ∃ (d : Nat) (vF : Nat → Value), d ≤ i ∧ iv = .int .i64 d ∧ DocsF wr C (.slice al i cl) ids i (wFi L m d) vF ∧ wr.ownsRow C 466 3 (.slice al2 m cl2) m (sl3 L) ∧ Kp [] w wr) (fun iv _ => i - (intOf iv).toNat)
              case atStart => exact ⟨0, emptyV, by omega, rfl, by have e : wFi L m 0 = fun _ => [] := by { funext d; unfold wFi; rw [if_neg (by omega)] }
                                                                  rw [e]; exact HDF.out, HO.out, hkp⟩
              case round =>
                clear HDF HO hkp c0 c1 c2 f1 f2
                obtain ⟨d, vF, hd, rfl, hdf, ho, hkp⟩ := hrel
                have hzk2 := hkp.size
                by_cases hlt4 : d < i
                · obtain ⟨g, rfl⟩ : ∃ g, al = some ⟨g, 0, none⟩ := by
                    obtain ⟨a5, c5, e5, h5⟩ := owns_forms hdf.row
                    obtain ⟨g, hg⟩ := h5 (by omega)
                    simp at e5
                    exact ⟨g, by rw [e5.1, hg]⟩
                  have HW := hide (rwordsOf_any C al2 cl2 m L d wr ho Hm.out (by omega))
                  have HO := hide ho
                  have HDF := hide hdf
                  clear ho hdf
                  go_wp2_with fail
                  refine HW.out.mono ?_
                  rintro e w5 ⟨a5, c5, n5, hn5, rfl, ho5, k5⟩
                  have hz5 := k5.size
                  have kk5 : Kp [] w w5 := hkp.trans k5 (by simp)
                  have hdf5 := HDF.out.kp k5 (by simp) (by simp)
                  have hol5 := k5.owns HO.out (by simp)
                  obtain ⟨g1, g2⟩ := owns_at hdf5.row (rowD_get ids vF i d hlt4).2
                  obtain ⟨hgC, hgl⟩ := hdf5.row.lt g rfl
                  have ho5' := owns_low ho5 (show C ≤ wr.heap.size by omega)
                  have hput := hdf5.put (w' := w5) hlt4 (ws := rwords L d (m + 1) 0) (lv := .slice a5 n5 c5) (by rw [hn5]; exact ho5')
                  rw [wFi_upd] at hput
                  have kg : Kp [g] w5 (w5.setCell ⟨g, d * 3 + 1, none⟩ (.slice a5 n5 c5)) := (Kp.refl [g] w5).setCell (p := ⟨g, d * 3 + 1, none⟩) (.inl (by simp)) _
                  have HL6 := hide (kg.owns hol5 (fun y hy hx => by simp at hx; subst hx; exact owns_disj hdf5.row hol5 (by decide) y rfl hy))
                  have kk6 := hide (kk5.trans kg (fun x hx => .inr (by simp at hx; omega)))
                  have HP6 := hide hput
                  clear hput ho5 ho5' hol5 hdf5 kg k5 HDF HO HW kk5 hkp hn5
                  go_wp2_with fail
                  go_roundw
                  case rel => exact ⟨d + 1, _, by omega, by go_num, HP6.out, HL6.out, kk6.out⟩
                  case measure => simp [intOf]; omega
                · have hdi : d = i := by omega
                  have hdocs := hdf.docs
                  have e6 : ((List.range i).map fun d' => (ids.getD d' 0, wFi L m d d')) = ((List.range i).map fun d' => (ids.getD d' 0, rwords L d' (m + 1) 0)) := by
                    apply List.map_congr_left
                    intro x hx
                    have := List.mem_range.1 hx
                    unfold wFi
                    rw [if_pos (by omega)]
                  rw [e6] at hdocs
                  have HDD := hide hdocs
                  clear hdocs hdf ho e6
                  go_wp2_with fail
                  go_ret2
                  exact ⟨hkp, .inr ⟨_, al, cl, i, _, HG4.out, by simp, rfl, by rw [HC.out]; exact HDD.out⟩⟩
      · skip
        go_wp2_with fail
        refine HNU.out.mono ?_
        rintro e w2 ⟨p2, rfl, hc2, hd2, hp2, hq2, ha2, k2⟩
        have hl2 := rnum_lt (F.drop p) b
        obtain ⟨N2, hN2⟩ : ∃ N2, rnum (F.drop p) b = N2 := ⟨_, rfl⟩
        have hg2 := HG2.out
        rw [hN2] at hc2 hd2 ha2 hg2
        rw [hN2]
        rw [Hn.out] at hq2
        obtain ⟨hb2, hb2'⟩ := num_bnd hpn hq2 ha2
        replace hl2 : N2.1 < 268435456 := by rw [← hN2]; exact hl2
        have hz2' := k2.size
        have ho2 := k2.owns HO.out (fun g hg hx => by simp at hx; subst hx; exact owns_ne HO.out HCU.out.blk (by decide) hg)
        have kk2 : Kp [] w w2 := hkp.trans k2 (fun x hx => .inr (by simp at hx; omega))
        have hdf : DocsF w2 C (.slice al i cl) ids i (fun _ => []) emptyV := ⟨ho2, fun d hd => World.ownsRow_nil _ _ _ _⟩
        obtain ⟨M, hM⟩ : ∃ M, N2.1 = M := ⟨_, rfl⟩
        obtain ⟨b2, hbb2⟩ : ∃ b2, N2.2.2 = b2 := ⟨_, rfl⟩
        rw [hM, ← hd2, hbb2] at hg2
        rw [hM] at hl2
        rw [hbb2] at hc2 hb2'
        rw [hM]
        obtain ⟨RM, hRM⟩ : ∃ RM, rmany M ([], F.drop p2, b2) = RM := ⟨_, rfl⟩
        rw [hRM] at hg2
        have HG3 := hide hg2
        have HRM := hide hRM
        have HC2 := hide hc2
        have HB2 := hide hb2'
        have HDF := hide hdf
        clear hc2 hd2 ha2 hq2 hb2' hN2 hM hbb2 hRM hg2 hdf ho2 k2 hkp HNU HCU HO c0 c1 c2 f1 f2 hp2 HG2 hz2' hcl
        go_wp2_with fail
        go_loopw [11, 12] (fun lv iv wr => ∃ (t : Nat) (L : List Sl) (al2 : Option Addr) (cl2 m p : Nat) (b : Bool), t ≤ M ∧ iv = .int .i64 t ∧ lv = .slice al2 m cl2 ∧ L.length = m ∧ rmany (M - t) (L, F.drop p, b) = RM ∧ p ≤ n + 1 ∧ (b = false → p ≤ n ∧ m ≤ p) ∧ m ≤ n + 2 ∧ Cu wr C C a n cap F p b ∧ wr.ownsRow C 466 3 (.slice al2 m cl2) m (sl3 L) ∧ DocsF wr C (.slice al i cl) ids i (fun _ => []) emptyV ∧ Kp [] w wr) (fun _ iv _ => M - (intOf iv).toNat)
        case atStart => exact ⟨0, [], none, 0, 0, p2, b2, by omega, rfl, rfl, rfl, HRM.out, hb2, fun h => ⟨HB2.out h, by omega⟩, by omega, HC2.out, World.ownsRow_nil _ _ _ _, HDF.out, kk2⟩
        case round =>
          clear HC2 HB2 HRM HDF kk2 hb2
          obtain ⟨t, L, al2, cl2, m, p, b, ht, rfl, rfl, hm, hr, hpn, hpb, hmn, hcu, ho, hdf, hkp⟩ := hrel
          obtain ⟨c0, c1, c2, f1, f2⟩ := hcu.cells
          have hcl := heap_lt hcu.blk
          have hzk := hkp.size
          by_cases hgo : t < M ∧ b = false
          · obtain ⟨hlt3, rfl⟩ := hgo
            obtain ⟨j, hj⟩ : ∃ j, M - t = j + 1 := ⟨M - t - 1, by omega⟩
            rw [hj, rmany, if_neg (by simp)] at hr
            have HS := hide (rslots_any C C n cap a F p false C al2 cl2 m L wr hcu Hn.out hn2 hc (hpb rfl).1 rfl ho hm (hpb rfl).2 (by omega) (Nat.le_refl _))
            have HR := hide hr
            have HCU := hide hcu
            have HDF := hide hdf
            clear hr hcu ho hm hpb hdf
            go_wp2_with fail
            refine HS.out.mono ?_
            rintro e w3 ⟨al3, cl3, m3, p3, rfl, hm3, ho3, hc3, hd3, hp3, hq3, hmp3, hmb3, k3⟩
            have hr3 := HR.out
            obtain ⟨S, hS⟩ : ∃ S, rslots L (F.drop p) false = S := ⟨_, rfl⟩
            rw [hS] at hm3 ho3 hc3 hd3 hq3 hmb3 hr3
            have HR3 : Hid (rmany j (S.1, F.drop p3, S.2.2) = RM) := by
              show _ = _
              rw [hd3]; exact hr3
            have hp3n : p3 ≤ n + 1 := by rcases hq3 with h | ⟨_, h⟩ <;> omega
            have hpb3 : S.2.2 = false → p3 ≤ n ∧ m3 ≤ p3 := by
              intro h
              refine ⟨?_, hmb3 h⟩
              rcases hq3 with h' | ⟨h', _⟩
              · exact h'
              · rw [h] at h'; simp at h'
            have kk3 : Kp [] w w3 := kp_of_kb hkp (by rw [HC.out]; exact k3) (by omega)
            have HM3 := hide hm3
            have HO3 := hide ho3
            have HC3 := hide hc3
            have HPB3 := hide hpb3
            have HDF3 := hide (HDF.out.kb k3 HCU.out.blk)
            have hj' : M - (t + 1) = j := by omega
            have hm3n : m3 ≤ n + 2 := by omega
            clear hm3 ho3 hc3 hpb3 hr3 hd3 hq3 hmb3 hS HR HCU HDF HS k3 c0 c1 c2 f1 f2 hkp
            go_wp2_with fail
            go_roundw
            case rel => exact ⟨t + 1, S.1, al3, cl3, m3, p3, S.2.2, by omega, by go_num, rfl, HM3.out, by rw [hj']; exact HR3.out, hp3n, HPB3.out, hm3n, HC3.out, HO3.out, HDF3.out, kk3⟩
            case measure => simp [intOf]; omega
          · have hfin : RM = (L, F.drop p, b) := by
              rw [← hr]
              by_cases hb : b = true
              · subst hb
                cases M - t with
                | zero => rfl
                | succ j => rw [rmany, if_pos rfl]
              · have : M - t = 0 := by
                  have hb' : b = false := by simpa using hb
                  have hnl : ¬ t < M := fun h => hgo ⟨h, hb'⟩
                  omega
                rw [this]; rfl
            have hg3 := HG3.out
            rw [hfin] at hg3
            simp only at hg3
            rw [hm] at hg3
            cases b with
            | true =>
              rw [if_pos rfl] at hg3
              have HG4 := hide hg3
              clear hg3 hfin hr hgo hcu ho hdf hm hpb HG3
              by_cases hlt3 : t < M
              · go_wp2_with fail
                go_ret2
                exact ⟨hkp, .inl ⟨HG4.out, rfl⟩⟩
              · go_wp2_with fail
                go_ret2
                exact ⟨hkp, .inl ⟨HG4.out, rfl⟩⟩
            | false =>
              have hlt3 : ¬ t < M := fun h => hgo ⟨h, rfl⟩
              rw [if_neg (by simp)] at hg3
              have HG4 := hide hg3
              have HO := hide ho
              have HDF := hide hdf
              have Hm := hide hm
              clear hg3 hfin hr hgo hcu ho hdf hm hpb HG3
              go_wp2_with fail
              go_loopw [13] (fun iv wr => ∃ (d : Nat) (vF : Nat → Value), d ≤ i ∧ iv = .int .i64 d ∧ DocsF wr C (.slice al i cl) ids i (wFi L m d) vF ∧ wr.ownsRow C 466 3 (.slice al2 m cl2) m (sl3 L) ∧ Kp [] w wr) (fun iv _ => i - (intOf iv).toNat)
              case atStart => exact ⟨0, emptyV, by omega, rfl, by have e : wFi L m 0 = fun _ => [] := by { funext d; unfold wFi; rw [if_neg (by omega)] }
                                                                  rw [e]; exact HDF.out, HO.out, hkp⟩
              case round =>
                clear HDF HO hkp c0 c1 c2 f1 f2
                obtain ⟨d, vF, hd, rfl, hdf, ho, hkp⟩ := hrel
                have hzk2 := hkp.size
                by_cases hlt4 : d < i
                · obtain ⟨g, rfl⟩ : ∃ g, al = some ⟨g, 0, none⟩ := by
                    obtain ⟨a5, c5, e5, h5⟩ := owns_forms hdf.row
                    obtain ⟨g, hg⟩ := h5 (by omega)
                    simp at e5
                    exact ⟨g, by rw [e5.1, hg]⟩
                  have HW := hide (rwordsOf_any C al2 cl2 m L d wr ho Hm.out (by omega))
                  have HO := hide ho
                  have HDF := hide hdf
                  clear ho hdf
                  go_wp2_with fail
                  refine HW.out.mono ?_
                  rintro e w5 ⟨a5, c5, n5, hn5, rfl, ho5, k5⟩
                  have hz5 := k5.size
                  have kk5 : Kp [] w w5 := hkp.trans k5 (by simp)
                  have hdf5 := HDF.out.kp k5 (by simp) (by simp)
                  have hol5 := k5.owns HO.out (by simp)
                  obtain ⟨g1, g2⟩ := owns_at hdf5.row (rowD_get ids vF i d hlt4).2
                  obtain ⟨hgC, hgl⟩ := hdf5.row.lt g rfl
                  have ho5' := owns_low ho5 (show C ≤ wr.heap.size by omega)
                  have hput := hdf5.put (w' := w5) hlt4 (ws := rwords L d (m + 1) 0) (lv := .slice a5 n5 c5) (by rw [hn5]; exact ho5')
                  rw [wFi_upd] at hput
                  have kg : Kp [g] w5 (w5.setCell ⟨g, d * 3 + 1, none⟩ (.slice a5 n5 c5)) := (Kp.refl [g] w5).setCell (p := ⟨g, d * 3 + 1, none⟩) (.inl (by simp)) _
                  have HL6 := hide (kg.owns hol5 (fun y hy hx => by simp at hx; subst hx; exact owns_disj hdf5.row hol5 (by decide) y rfl hy))
                  have kk6 := hide (kk5.trans kg (fun x hx => .inr (by simp at hx; omega)))
                  have HP6 := hide hput
                  clear hput ho5 ho5' hol5 hdf5 kg k5 HDF HO HW kk5 hkp hn5
                  go_wp2_with fail
                  go_roundw
                  case rel => exact ⟨d + 1, _, by omega, by go_num, HP6.out, HL6.out, kk6.out⟩
                  case measure => simp [intOf]; omega
                · have hdi : d = i := by omega
                  have hdocs := hdf.docs
                  have e6 : ((List.range i).map fun d' => (ids.getD d' 0, wFi L m d d')) = ((List.range i).map fun d' => (ids.getD d' 0, rwords L d' (m + 1) 0)) := by
                    apply List.map_congr_left
                    intro x hx
                    have := List.mem_range.1 hx
                    unfold wFi
                    rw [if_pos (by omega)]
                  rw [e6] at hdocs
                  have HDD := hide hdocs
                  clear hdocs hdf ho e6
                  go_wp2_with fail
                  go_ret2
                  exact ⟨hkp, .inr ⟨_, al, cl, i, _, HG4.out, by simp, rfl, by rw [HC.out]; exact HDD.out⟩⟩
end Go.Proofs.YtpdoacfiiledcaaGreatDoor.Pak

set_option linter.unusedVariables false
set_option maxRecDepth 4000
namespace Go.Proofs.YtpdoacfiiledcaaGreatDoor.Pak
open Go.RowKit Go.Proofs.YtpdoacfiiledcaaGreatDoor Go.Proofs.YtpdoacfiiledcaaGreatDoor.Spl SiftM

/-- Bounds of what was guessed. -/
theorem rnumG_suf : ∀ (f i m : Nat) (l : List UInt8) (b : Bool), (rnumG f i m l b).2.1.length ≤ l.length
  | 0, i, m, l, b => by simp [rnumG]
  | f + 1, i, m, [], b => by simp [rnumG]
  | f + 1, i, m, c :: r, b => by
    show (if c.toNat < 128 then (m + c.toNat % 128 * 128 ^ i, r, b) else rnumG f (i + 1) (m + c.toNat % 128 * 128 ^ i) r b).2.1.length ≤ _
    split
    · simp
    · have := rnumG_suf f (i + 1) (m + c.toNat % 128 * 128 ^ i) r b
      simp; omega
theorem rnum_suf (l : List UInt8) (b : Bool) : (rnum l b).2.1.length ≤ l.length := rnumG_suf 4 0 0 l b
theorem rtext_suf (n : Nat) (l : List UInt8) (b : Bool) : (rtext n l b).2.1.length ≤ l.length ∧ (rtext n l b).1.length ≤ l.length := by
  unfold rtext; split
  · simp
  · simp; omega
/-- Slots whose words have at most k bytes. -/
def ShS (k : Nat) (L : List Sl) : Prop := ∀ s ∈ L, s.2.2.length ≤ k
theorem rpl_ok (k doc : Nat) (w : List UInt8) (hw : w.length ≤ k) : ∀ (c np : Nat) (L : List Sl) (l : List UInt8) (b : Bool), ShS k L → l.length ≤ k → ShS k (rpl doc w c np L l b).1 ∧ (rpl doc w c np L l b).2.1.length ≤ k
  | 0, np, L, l, b, h, hl => ⟨h, hl⟩
  | c + 1, np, L, l, b, h, hl => by
    rw [rpl]
    split
    · exact ⟨h, hl⟩
    · refine rpl_ok k doc w hw c _ _ _ _ ?_ (Nat.le_trans (rnum_suf l b) hl)
      intro s hs
      rcases List.mem_append.1 hs with hs | hs
      · exact h s hs
      · simp at hs; subst hs; exact hw
theorem rdoc_ok (k : Nat) (w : List UInt8) (hw : w.length ≤ k) (nd : Nat) (L : List Sl) (l : List UInt8) (b : Bool) (h : ShS k L) (hl : l.length ≤ k) : ShS k (rdoc w nd L l b).1 ∧ (rdoc w nd L l b).2.1.length ≤ k := by
  unfold rdoc
  exact rpl_ok k _ w hw _ _ _ _ _ h (Nat.le_trans (rnum_suf _ _) (Nat.le_trans (rnum_suf _ _) hl))
/-- What a turn of the reader keeps: short words, few slots as long as it is not bad. -/
def OkS (k : Nat) (s : SS) : Prop := ShS k s.1 ∧ s.2.1.length ≤ k ∧ (s.2.2 = false → s.1.length ≤ 10000)
theorem rdocs_ok (k : Nat) (w : List UInt8) (hw : w.length ≤ k) : ∀ (c nd : Nat) (L : List Sl) (l : List UInt8) (b : Bool), OkS k (L, l, b) → OkS k (rdocs w c nd L l b)
  | 0, nd, L, l, b, h => h
  | c + 1, nd, L, l, b, h => by
    rw [rdocs]
    split
    · exact h
    · obtain ⟨h1, h2⟩ := rdoc_ok k w hw nd L l b h.1 h.2.1
      refine rdocs_ok k w hw c _ _ _ _ ⟨h1, h2, ?_⟩
      intro e
      simp at e
      exact e.2
theorem rslots_ok (k : Nat) (L : List Sl) (l : List UInt8) (b : Bool) (h : OkS k (L, l, b)) (hb : b = false) : OkS k (rslots L l b) := by
  unfold rslots
  have h1 := rnum_suf l b
  obtain ⟨h2, h3⟩ := rtext_suf (rnum l b).1 (rnum l b).2.1 (rnum l b).2.2
  have h4 := rnum_suf (rtext (rnum l b).1 (rnum l b).2.1 (rnum l b).2.2).2.1 (rtext (rnum l b).1 (rnum l b).2.1 (rnum l b).2.2).2.2
  have hl := h.2.1
  simp only at hl
  exact rdocs_ok k _ (by omega) _ _ _ _ _ ⟨h.1, by simp only; omega, fun _ => h.2.2 hb⟩
theorem rmany_ok (k : Nat) : ∀ (c : Nat) (s : SS), OkS k s → OkS k (rmany c s)
  | 0, s, h => h
  | c + 1, s, h => by
    rw [rmany]
    split
    · exact h
    · rename_i hb
      exact rmany_ok k c _ (rslots_ok k s.1 s.2.1 s.2.2 h (by simpa using hb))
theorem rwords_ok (k : Nat) (L : List Sl) (h : ShS k L) (d : Nat) : ∀ (f p : Nat), (rwords L d f p).length ≤ f ∧ ∀ x ∈ rwords L d f p, x.length ≤ k
  | 0, p => by simp [rwords]
  | f + 1, p => by
    rw [rwords_step]
    obtain ⟨h1, h2⟩ := rwords_ok k L h d f (p + 1)
    cases e : L.find? (hitS d p) with
    | none => simp
    | some s =>
      have hm := List.mem_of_find?_eq_some e
      refine ⟨by simp; omega, ?_⟩
      intro x hx
      rcases List.mem_cons.1 hx with rfl | hx
      · exact h s hm
      · exact h2 x hx
theorem rids_suf : ∀ (c nx : Nat) (ids : List Nat) (l : List UInt8) (b : Bool), (rids c nx ids l b).2.1.length ≤ l.length
  | 0, nx, ids, l, b => by simp [rids]
  | c + 1, nx, ids, l, b => by
    rw [rids]
    split
    · simp
    · exact Nat.le_trans (rids_suf c _ _ _ _) (rnum_suf l b)
theorem rids_bnd (Q : Nat) (hQ : ∀ l b, (rnum l b).1 < Q) : ∀ (c nx k : Nat) (ids : List Nat) (l : List UInt8) (b : Bool), (∀ x ∈ ids, x ≤ k * Q) → nx ≤ k * Q → ∀ x ∈ (rids c nx ids l b).1, x ≤ (k + c) * Q
  | 0, nx, k, ids, l, b, h, hn => by simpa [rids] using h
  | c + 1, nx, k, ids, l, b, h, hn => by
    rw [rids]
    split
    · intro x hx
      exact Nat.le_trans (h x hx) (Nat.mul_le_mul_right _ (by omega))
    · have hl := hQ l b
      have e1 : (k + 1) * Q = k * Q + Q := Nat.succ_mul k Q
      have := rids_bnd Q hQ c (nx + (rnum l b).1 + 1) (k + 1) (ids ++ [nx + (rnum l b).1]) (rnum l b).2.1 (rnum l b).2.2 (by
        intro x hx
        rcases List.mem_append.1 hx with hx | hx
        · have := h x hx; omega
        · simp at hx; subst hx; omega) (by omega)
      rw [show k + (c + 1) = k + 1 + c by omega]
      exact this
/-- What was guessed is not great. -/
structure Guessed (k : Nat) (T : List Tx) : Prop where
  len : T.length ≤ 60
  ids : ∀ t ∈ T, t.1 ≤ 60 * 268435456
  few : ∀ t ∈ T, t.2.length ≤ 10001
  short : ∀ t ∈ T, ∀ x ∈ t.2, x.length ≤ k
theorem guess_bnd (F : List UInt8) (T : List Tx) (h : rguess F = some T) : Guessed F.length T := by
  unfold rguess at h
  simp only at h
  have hd : (F.drop 1).length ≤ F.length := by simp
  have hs1 := rnum_suf (F.drop 1) false
  generalize rnum (F.drop 1) false = N1 at *
  split at h
  · simp at h
  rename_i h60
  have hi1 := rids_len N1.1 0 [] N1.2.1 N1.2.2
  have hi2 := rids_bnd 268435456 rnum_lt N1.1 0 0 [] N1.2.1 N1.2.2 (by simp) (Nat.zero_le _)
  have hi3 := rids_suf N1.1 0 [] N1.2.1 N1.2.2
  generalize rids N1.1 0 [] N1.2.1 N1.2.2 = RI at *
  have hs2 := rnum_suf RI.2.1 RI.2.2
  generalize rnum RI.2.1 RI.2.2 = N2 at *
  have hok := rmany_ok F.length N2.1 ([], N2.2.1, N2.2.2) ⟨by intro s hs; simp at hs, by simp only; omega, fun _ => by simp⟩
  generalize rmany N2.1 ([], N2.2.1, N2.2.2) = S at *
  split at h
  · simp at h
  rename_i hb
  simp at h hi1
  have hfew := hok.2.2 (by simpa using hb)
  subst h
  refine ⟨by simp; omega, ?_, ?_, ?_⟩
  · intro t ht
    obtain ⟨d, hd', rfl⟩ := List.mem_map.1 ht
    simp only
    have hdl := List.mem_range.1 hd'
    rw [List.getElem?_eq_getElem hdl]
    have := hi2 _ (List.getElem_mem hdl)
    simp only [Option.getD_some]
    have h6 : N1.1 ≤ 60 := by omega
    exact Nat.le_trans this (Nat.mul_le_mul_right _ (by omega))
  · intro t ht
    obtain ⟨d, hd', rfl⟩ := List.mem_map.1 ht
    have := (rwords_ok F.length S.1 hok.1 d (S.1.length + 1) 0).1
    simp only; omega
  · intro t ht
    obtain ⟨d, hd', rfl⟩ := List.mem_map.1 ht
    exact (rwords_ok F.length S.1 hok.1 d (S.1.length + 1) 0).2
end Go.Proofs.YtpdoacfiiledcaaGreatDoor.Pak
