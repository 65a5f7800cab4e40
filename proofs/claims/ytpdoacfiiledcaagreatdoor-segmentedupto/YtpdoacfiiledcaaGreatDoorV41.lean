import Derived.Test.YtpdoacfiiledcaaGreatDoorV40
import Derived.WalkSmall
import Derived.Deep.RegionHeld3
import Derived.Deep.AppendLies
import Derived.Deep.RegionLaw
namespace Go.Proofs.YtpdoacfiiledcaaGreatDoor
open Go.RowKit ChkM
open Pak (Kp)
set_option linter.unusedVariables false

theorem query_zero (s : ByteArray) (B : Nat) (w : World) (hs : s.size ≤ 1000) (hp : Pa w B s 0) :
    Calls Tryz.prog 225 #[.pointer (some ⟨B, 0, none⟩), .int .i64 0] w (RQ (psTop s.data.toList) B s 0 w) := by
  have h := query_any (3 * s.size + 3) s 0 B 0 w hs (Nat.zero_le _) (by omega) (by omega) hp
  have e : ps (3 * s.size + 3) 2 0 (s.data.toList.drop 0) = psTop s.data.toList := by
    unfold psTop
    rw [show s.data.toList.length = s.size by simp]; rfl
  rw [e, show ((0 : Nat) : Int) = 0 from rfl] at h
  exact h
theorem rest_nil {s : ByteArray} {r : List UInt8} {k : Nat} (h : r = s.data.toList.drop k) (hk : k ≤ s.size) : (r = [] ↔ k = s.size) ∧ s.size - r.length = k := by
  have hl : r.length = s.size - k := by rw [h, List.length_drop]; simp
  refine ⟨⟨fun e => ?_, fun e => ?_⟩, by omega⟩
  · rw [e] at hl; simp at hl; omega
  · exact List.length_eq_zero_iff.1 (by omega)
theorem results_cell_tmp2 {fn : Func} {p u v : Tmp} {ty : TypeId} (h : fn.results = #[.cell p ty, .tmp u, .tmp v]) (tmps : Array Value) (P : Program) (w : World) :
    (results fn tmps).run P w =
      ((asAddr (tmps.getD p undef)).run P w).andThen fun a w₁ => ((loadVar ty a).run P w₁).andThen fun x w₂ => .ok (.tuple #[x, tmps.getD u undef, tmps.getD v undef]) w₂ := by
  simp only [results, h]
  simp [Sem.run_bind, Result.andThen]
theorem ret_query3 {fn : Func} {R : Ending → World → Prop} {a : Act} {w : World} {p u u' R0 : Nat} {kd : Int} {wv pv : Value} (hres : fn.results = #[.cell p 139, .tmp u, .tmp u'])
    (hb : Bx w R0 kd wv pv) (hp : a.tmps.getD p undef = .pointer (some ⟨R0, 0, none⟩)) (hd : a.defers = []) (h : R (.returned (.tuple #[.agg #[.int .i64 kd, wv, pv], a.tmps.getD u undef, a.tmps.getD u' undef])) w) : bodyPost Tryz.prog fn R .ret a w := by
  refine bodyPost_ret (v := .tuple #[.agg #[.int .i64 kd, wv, pv], a.tmps.getD u undef, a.tmps.getD u' undef]) ?_ hd h
  rw [results_cell_tmp2 hres, hp]
  simp [asAddr, Result.andThen, load_query w R0 kd wv pv hb]

theorem read_boxes (s : ByteArray) (w : World) : ∃ W, (w.alloc (.cells nilQ 139)).alloc (.cells #[.string s, .int .i64 0] 329) = W ∧ Pa W (w.heap.size + 1) s 0 ∧ Bx W w.heap.size 0 (.slice none 0 0) (.slice none 0 0) ∧ Kp [] w W := by
  refine ⟨_, rfl, ?_, bx_past (heap_alloc_new w _) _, ((Kp.refl [] w).alloc _).alloc _⟩
  have e : w.heap.size + 1 = (w.alloc (.cells nilQ 139)).heap.size := by simp
  rw [e]
  exact ⟨by rw [World.cell?_alloc_at _ _ _ _ rfl]; rfl, by rw [World.cell?_alloc_at _ _ _ _ rfl]; rfl, World.frozen?_alloc_at _ _ _ _ rfl⟩

/-- What Read of queries gives. -/
def ReadPost (s : ByteArray) (w : World) (e : Ending) (w' : World) : Prop :=
  ∃ (v : Value) (b : Bool) (k : Nat), e = .returned (.tuple #[v, .bool b, .int .i64 k]) ∧ Qv v ∧ Hid (b = decide ((psTop s.data.toList).1 = true ∧ (psTop s.data.toList).2 = [])) ∧ Hid (k = s.size - (psTop s.data.toList).2.length) ∧ k ≤ s.size ∧ Kp [] w w'

set_option maxHeartbeats 1000000 in
set_option maxRecDepth 100000 in
theorem readq_any (s : ByteArray) (w : World) (hs : s.size ≤ 1000) : Calls Tryz.prog 129 #[.string s] w (ReadPost s w) := by
  go_enter Tryz.func129, Tryz.ntmps129
  go_wp2_with fail
  obtain ⟨W, hW, pW, r0, kW⟩ := read_boxes s w
  rw [hW]
  clear hW
  refine (query_zero s (w.heap.size + 1) W hs pW).mono ?_
  rintro e w1 ⟨k, v, rfl, ⟨kd1, a1, n1, c1, a2, n2, c2, rfl⟩, h1, h2, hr, hP, hk1⟩
  have r1 : Bx w1 w.heap.size 0 (.slice none 0 0) (.slice none 0 0) := hk1.heap r0 (by simp)
  have hnil := hide (rest_nil hr h2)
  have K1 : Hid (Kp [] w w1) := kW.trans hk1 (fun x hx => by simp at hx; subst hx; exact .inr (by omega))
  obtain ⟨ok, hok⟩ : ∃ ok, (psTop s.data.toList).1 = ok := ⟨_, rfl⟩
  rw [hok]
  have Hok := hide hok
  have HR := hide r1
  have HP := hide hP
  have hlt : w.heap.size < w1.heap.size := (Array.getElem?_eq_some_iff.1 r1).1
  clear hr hk1 pW r0 kW hok r1 hP
  go_wp2_with fail
  obtain ⟨W4, hW4⟩ : ∃ W4, w1.alloc (.cells #[.int .i64 kd1, .slice a1 n1 c1, .slice a2 n2 c2] 139) = W4 := ⟨_, rfl⟩
  have K4 : Hid (Kp [] w W4) := by show Kp _ _ _; rw [← hW4]; exact K1.out.alloc _
  have r4 : Bx W4 w.heap.size 0 (.slice none 0 0) (.slice none 0 0) := by rw [← hW4]; exact bx_past HR.out _
  have bq : Bx W4 w1.heap.size kd1 (.slice a1 n1 c1) (.slice a2 n2 c2) := by rw [← hW4]; exact heap_alloc_new w1 _
  have p4 : W4.cell? ⟨w.heap.size + 1, 1, none⟩ = some (.int .i64 (k : Int)) := by rw [← hW4]; exact ((Kp.refl [] w1).alloc _).cellv HP.out.2.1 (by simp)
  rw [hW4]
  clear hW4 HR HP K1
  obtain ⟨x0, x1, x2, y0, y1, y2⟩ := bx_cells r4
  obtain ⟨u0, u1, u2, _, _, _⟩ := bx_cells bq
  have HR4 := hide r4
  clear r4 bq
  have hne3 : ¬ w.heap.size = w1.heap.size := by omega
  have hne3' : ¬ w1.heap.size = w.heap.size := by omega
  cases ok
  · go_region
    all_goals
      go_wp2_with fail
      refine ret_query3 rfl (bx_store3 HR4.out _ _ _) rfl rfl ?_
      exact ⟨_, false, k, rfl, ⟨kd1, a1, n1, c1, a2, n2, c2, rfl⟩, by show _ = _; simp [Hok.out], by show _ = _; rw [hnil.out.2], h2, K4.out.trans (kp_drew (kp_store3 W4 _ _ _ _)) (fun x hx => by simp at hx; subst hx; exact .inr (Nat.le_refl _))⟩
  · by_cases he : k = s.size
    · have hq : ((k : Int) == (s.size : Int)) = true := by rw [beq_iff_eq]; omega
      have hfin : Hid ((psTop s.data.toList).2 = []) := hnil.out.1.2 he
      clear he
      go_region
      all_goals
        go_wp2_with fail
        refine ret_query3 rfl (bx_store3 HR4.out _ _ _) rfl rfl ?_
        exact ⟨_, true, k, rfl, ⟨kd1, a1, n1, c1, a2, n2, c2, rfl⟩, by show _ = _; simp [Hok.out, hfin.out], by show _ = _; rw [hnil.out.2], h2, K4.out.trans (kp_drew (kp_store3 W4 _ _ _ _)) (fun x hx => by simp at hx; subst hx; exact .inr (Nat.le_refl _))⟩
    · have hq : ((k : Int) == (s.size : Int)) = false := by rw [beq_eq_false_iff_ne]; omega
      have hfin : Hid (¬ (psTop s.data.toList).2 = []) := fun h => he (hnil.out.1.1 h)
      clear he
      go_region
      all_goals
        go_wp2_with fail
        refine ret_query3 rfl (bx_store3 HR4.out _ _ _) rfl rfl ?_
        exact ⟨_, false, k, rfl, ⟨kd1, a1, n1, c1, a2, n2, c2, rfl⟩, by show _ = _; simp [Hok.out, hfin.out], by show _ = _; rw [hnil.out.2], h2, K4.out.trans (kp_drew (kp_store3 W4 _ _ _ _)) (fun x hx => by simp at hx; subst hx; exact .inr (Nat.le_refl _))⟩
end Go.Proofs.YtpdoacfiiledcaaGreatDoor

namespace Go.Proofs.YtpdoacfiiledcaaGreatDoor
open Go.RowKit ChkM
open Pak (Kp)
set_option linter.unusedVariables false

/-- What readQuery gives. -/
def AskPost (ans : Int × Nat) (w : World) (e : Ending) (w' : World) : Prop :=
  ∃ v : Value, e = .returned (.tuple #[v, .int .i64 ans.1, .int .i64 (ans.2 : Int)]) ∧ Qv v ∧ Kp [] w w'
/-- The answer of Check to a text of whatever length. -/
def checkAns (s : ByteArray) : Int × Nat := if 60 < s.size then (4, 0) else codeAns s.data.toList

set_option maxHeartbeats 1000000 in
set_option maxRecDepth 100000 in
theorem askq_any (s : ByteArray) (w : World) : Calls Tryz.prog 58 #[.string s] w (AskPost (checkAns s) w) := by
  have hr := heap_alloc_new w (.cells nilQ 139)
  by_cases hl : 60 < s.size
  · have HE : Hid (checkAns s = (4, 0)) := by show _ = _; unfold checkAns; rw [if_pos hl]
    have HR := hide hr
    clear hr
    go_enter Tryz.func58, Tryz.ntmps58
    go_wp2_with fail
    refine ret_query3 (R0 := w.heap.size) rfl (heap_alloc_new w _) rfl rfl ?_
    rw [HE.out]
    exact ⟨_, rfl, ⟨0, none, 0, 0, none, 0, 0, rfl⟩, (Kp.refl [] w).alloc _⟩
  · have HE : Hid (checkAns s = codeAns s.data.toList) := by show _ = _; unfold checkAns; rw [if_neg hl]
    have hls : s.data.toList.length = s.size := by simp
    have HL := hide hls
    have HR := hide hr
    clear hr hls
    go_enter Tryz.func58, Tryz.ntmps58
    go_wp2_with fail
    refine (readq_any s _ (by omega)).mono ?_
    rintro e w1 ⟨v, b, k, rfl, ⟨kd1, a1, n1, c1, a2, n2, c2, rfl⟩, hb, hk, hks, hK⟩
    have r1 : Bx w1 w.heap.size 0 (.slice none 0 0) (.slice none 0 0) := hK.heap HR.out (by simp)
    have K1 : Hid (Kp [] w w1) := ((Kp.refl [] w).alloc _).next hK
    have HR1 := hide r1
    have hlt : w.heap.size < w1.heap.size := (Array.getElem?_eq_some_iff.1 r1).1
    obtain ⟨x0, x1, x2, y0, y1, y2⟩ := bx_cells r1
    obtain ⟨X0, X1, X2, Y0, Y1, Y2⟩ := bx_cells_past r1
    clear r1 hK HR
    cases b
    · have hf : Hid (codeAns s.data.toList = (8, k)) := by
        show _ = _
        unfold codeAns
        have h2 := of_decide_eq_false hb.out.symm
        rw [if_neg h2, HL.out, hk.out]
      clear hb hk
      go_wp2_with fail
      refine ret_query3 rfl (bx_past (bx_store3 HR1.out _ _ _) _) rfl rfl ?_
      rw [HE.out, hf.out]
      exact ⟨_, rfl, ⟨0, none, 0, 0, none, 0, 0, rfl⟩, K1.out.trans ((kp_store3 _ _ _ _ _).alloc _) (fun x hx => by simp at hx; subst hx; exact .inr (Nat.le_refl _))⟩
    · have hf : Hid (codeAns s.data.toList = (0, 0)) := by
        show _ = _
        unfold codeAns
        have h2 := of_decide_eq_true hb.out.symm
        rw [if_pos h2]
      clear hb hk
      go_wp2_with fail
      refine ret_query3 rfl (bx_past (bx_store3 HR1.out _ _ _) _) rfl rfl ?_
      rw [HE.out, hf.out]
      exact ⟨_, rfl, ⟨kd1, a1, n1, c1, a2, n2, c2, rfl⟩, K1.out.trans ((kp_store3 _ _ _ _ _).alloc _) (fun x hx => by simp at hx; subst hx; exact .inr (Nat.le_refl _))⟩

set_option maxHeartbeats 1000000 in
set_option maxRecDepth 100000 in
theorem check_any (s : ByteArray) (w : World) :
    Calls Tryz.prog 75 #[.string s] w fun e w' => e = .returned (.tuple #[.int .i64 (checkAns s).1, .int .i64 ((checkAns s).2 : Int)]) ∧ Below w.heap.size w w' := by
  go_enter Tryz.func75, Tryz.ntmps75
  go_wp2_with fail
  refine (askq_any s _).mono ?_
  rintro e w1 ⟨v, rfl, ⟨kd1, a1, n1, c1, a2, n2, c2, rfl⟩, hK⟩
  have HK := hide hK
  clear hK
  go_wp2_with fail
  go_ret2
  exact ⟨rfl, (HK.out.alloc _).below (Nat.le_refl _) (by simp)⟩
theorem check_long (s : ByteArray) (w : World) (hs : 60 < s.size) :
    Calls Tryz.prog 75 #[.string s] w fun e w' => e = .returned (.tuple #[.int .i64 4, .int .i64 0]) ∧ Below w.heap.size w w' := by
  have h := check_any s w
  rw [show checkAns s = (4, 0) by unfold checkAns; rw [if_pos hs]] at h
  exact h
theorem code_le (l : List UInt8) : (codeAns l).2 ≤ l.length := by
  unfold codeAns
  split
  · exact Nat.zero_le _
  · exact Nat.sub_le _ _
theorem check_ok (s : ByteArray) (w : World) (hs : s.size ≤ 60) :
    Calls Tryz.prog 75 #[.string s] w fun e w' => ∃ (a : Int) (k : Nat), e = .returned (.tuple #[.int .i64 a, .int .i64 k]) ∧ Hid (codeAns s.data.toList = (a, k)) ∧ k ≤ s.size ∧ Below w.heap.size w w' := by
  have h := check_any s w
  rw [show checkAns s = codeAns s.data.toList by unfold checkAns; rw [if_neg (by omega)]] at h
  refine h.mono ?_
  rintro e w' ⟨rfl, hb⟩
  have hl : s.data.toList.length = s.size := by simp
  have := code_le s.data.toList
  exact ⟨_, _, rfl, rfl, by omega, hb⟩
end Go.Proofs.YtpdoacfiiledcaaGreatDoor

namespace Go.Proofs.YtpdoacfiiledcaaGreatDoor
open Go.RowKit ChkM
set_option linter.unusedVariables false

set_option maxHeartbeats 400000 in
theorem isWord_any (c : UInt8) (w : World) :
    Calls Tryz.prog 279 #[.int .u8 c.toNat] w fun e w' => e = .returned (.bool (isSm c)) ∧ w' = w := by
  have hs := hide (isSm_int c)
  by_cases h1 : (97 : Int) ≤ (c.toNat : Int)
  · by_cases h2 : (c.toNat : Int) ≤ 122
    · go_enter Tryz.func279, Tryz.ntmps279
      go_wp2
      go_ret
      exact ⟨ret_bool (by rw [hs.out]; simp [h1, h2]), rfl⟩
    · have h3 : (48 : Int) ≤ (c.toNat : Int) := by omega
      have h4 : ¬ (c.toNat : Int) ≤ 57 := by omega
      go_enter Tryz.func279, Tryz.ntmps279
      go_wp2
      go_ret
      exact ⟨ret_bool (by rw [hs.out]; simp; omega), rfl⟩
  · by_cases h3 : (48 : Int) ≤ (c.toNat : Int)
    · by_cases h4 : (c.toNat : Int) ≤ 57
      · go_enter Tryz.func279, Tryz.ntmps279
        go_wp2
        go_ret
        exact ⟨ret_bool (by rw [hs.out]; simp; omega), rfl⟩
      · go_enter Tryz.func279, Tryz.ntmps279
        go_wp2
        go_ret
        exact ⟨ret_bool (by rw [hs.out]; simp; omega), rfl⟩
    · go_enter Tryz.func279, Tryz.ntmps279
      go_wp2
      go_ret
      exact ⟨ret_bool (by rw [hs.out]; simp; omega), rfl⟩

def opV (l : List Nat) : List Value := l.reverse.map fun (d : Nat) => Value.int .i64 (d : Int)
/-- A station at block S. -/
structure Stn (w : World) (S : Nat) (s : St) (v : Value) : Prop where
  c0 : w.cell? ⟨S, 0, none⟩ = some (.int .i64 s.at_)
  c1 : w.cell? ⟨S, 1, none⟩ = some (.int .i64 s.n)
  c2 : w.cell? ⟨S, 2, none⟩ = some (.int .i64 s.deep)
  c3 : w.cell? ⟨S, 3, none⟩ = some v
  own : w.ownsRow (S + 1) 3 1 v s.op.length (opV s.op)
  f : ∀ j, w.frozen? ⟨S, j, none⟩ = false
  hn : s.n ≤ 1000
  hd : s.deep ≤ 5
  ho : ∀ d ∈ s.op, d ≤ 4
  hl : s.op.length ≤ 1000

theorem cell_ne {w : World} {S i j : Nat} {v : Value} (h : i ≠ j) : (w.setCell ⟨S, i, none⟩ v).cell? ⟨S, j, none⟩ = w.cell? ⟨S, j, none⟩ :=
  World.cell?_setCell_other _ _ _ _ (fun hh => h (congrArg Addr.off hh))
theorem Stn.drewN {w : World} {S : Nat} {s : St} {v : Value} (h : Stn w S s v) (n : Nat) : Stn (w.drewN n) S s v := ⟨h.c0, h.c1, h.c2, h.c3, h.own, h.f, h.hn, h.hd, h.ho, h.hl⟩
theorem Stn.set0 {w : World} {S : Nat} {s : St} {v : Value} (h : Stn w S s v) (j : Nat) : Stn (w.setCell ⟨S, 0, none⟩ (.int .i64 j)) S { s with at_ := j } v :=
  ⟨World.cell?_setCell_same _ _ _ h.c0, by rw [cell_ne (by decide)]; exact h.c1, by rw [cell_ne (by decide)]; exact h.c2, by rw [cell_ne (by decide)]; exact h.c3, ownsRow_setCell_below h.own (by simp) _, fun j => by simpa using h.f j, h.hn, h.hd, h.ho, h.hl⟩
theorem Stn.set1 {w : World} {S : Nat} {s : St} {v : Value} (h : Stn w S s v) (j : Nat) (hj : j ≤ 1000) : Stn (w.setCell ⟨S, 1, none⟩ (.int .i64 j)) S { s with n := j } v :=
  ⟨by rw [cell_ne (by decide)]; exact h.c0, World.cell?_setCell_same _ _ _ h.c1, by rw [cell_ne (by decide)]; exact h.c2, by rw [cell_ne (by decide)]; exact h.c3, ownsRow_setCell_below h.own (by simp) _, fun j => by simpa using h.f j, hj, h.hd, h.ho, h.hl⟩
theorem Stn.set2 {w : World} {S : Nat} {s : St} {v : Value} (h : Stn w S s v) (j : Nat) (hj : j ≤ 5) : Stn (w.setCell ⟨S, 2, none⟩ (.int .i64 j)) S { s with deep := j } v :=
  ⟨by rw [cell_ne (by decide)]; exact h.c0, by rw [cell_ne (by decide)]; exact h.c1, World.cell?_setCell_same _ _ _ h.c2, by rw [cell_ne (by decide)]; exact h.c3, ownsRow_setCell_below h.own (by simp) _, fun j => by simpa using h.f j, h.hn, hj, h.ho, h.hl⟩
theorem Stn.set3 {w : World} {S : Nat} {s : St} {v : Value} (h : Stn w S s v) (v' : Value) (op' : List Nat) (hown : w.ownsRow (S + 1) 3 1 v' op'.length (opV op')) (ho : ∀ d ∈ op', d ≤ 4) (hl : op'.length ≤ 1000) :
    Stn (w.setCell ⟨S, 3, none⟩ v') S { s with op := op' } v' :=
  ⟨by rw [cell_ne (by decide)]; exact h.c0, by rw [cell_ne (by decide)]; exact h.c1, by rw [cell_ne (by decide)]; exact h.c2, World.cell?_setCell_same _ _ _ h.c3, ownsRow_setCell_below hown (by simp) _, fun j => by simpa using h.f j, h.hn, h.hd, ho, hl⟩
theorem Stn.drew {w : World} {S : Nat} {s : St} {v : Value} (h : Stn w S s v) : Stn w.drew S s v := ⟨h.c0, h.c1, h.c2, h.c3, h.own, h.f, h.hn, h.hd, h.ho, h.hl⟩
theorem Stn.below0 {w : World} {S i : Nat} {v : Value} : Below S w (w.setCell ⟨S, i, none⟩ v) := (Below.refl S w).setCell (p := ⟨S, i, none⟩) (Nat.le_refl _) v
theorem bel_drewN (B : Nat) (w : World) (n : Nat) : Below B w (w.drewN n) := ⟨rfl, rfl, rfl, Nat.le_refl _, fun _ _ => rfl⟩
theorem byte_eq (c d : UInt8) (n : Int) (hd : (d.toNat : Int) = n) (h : c = d) : ((c.toNat : Int) == n) = true := by subst h; rw [hd]; simp
theorem byte_ne (c d : UInt8) (n : Int) (hd : (d.toNat : Int) = n) (h : ¬ c = d) : ((c.toNat : Int) == n) = false := by
  rw [beq_eq_false_iff_ne]; intro e; exact h (UInt8.toNat_inj.1 (by omega))

theorem joins_and (s : St) (c : UInt8) (h : c = 38 ∨ c = 124) : joinsA s c = { { s with at_ := 0 } with deep := around s.op } := by unfold joinsA; rw [if_pos h]
theorem joins_shut (s : St) (c : UInt8) (h : c = 41) (ho : s.op ≠ []) : joinsA s c = { { s with at_ := 2 } with op := s.op.tail } := by
  subst h; unfold joinsA; rw [if_neg (by decide), if_pos ⟨rfl, ho⟩]
theorem joins_no (s : St) (c : UInt8) (h : ¬ c = 38) (h2 : ¬ c = 124) (h3 : c = 41 → s.op = []) : joinsA s c = { s with at_ := 4 } := by
  unfold joinsA; rw [if_neg (by simp [h, h2]), if_neg (fun e => e.2 (h3 e.1))]

set_option maxHeartbeats 400000 in
set_option maxRecDepth 100000 in
theorem joins_nil (s : St) (v : Value) (c : UInt8) (S : Nat) (w : World) (h : Stn w S s v) (ho : s.op = []) :
    Calls Tryz.prog 281 #[.pointer (some ⟨S, 0, none⟩), .int .u8 c.toNat] w fun e w' => e = .returned (.tuple #[]) ∧ (∃ v', Stn w' S (joinsA s c) v') ∧ Below S w w' := by
  have hown := h.own
  have hc3 := h.c3
  have hc0 := h.c0
  have hc2 := h.c2
  have f0 := h.f 0
  have f2 := h.f 2
  obtain ⟨a, cap, hv, _⟩ : ∃ a cap, v = .slice a 0 cap ∧ True := by
    rw [ho] at hown
    rcases hown.2 with ⟨rfl, _⟩ | ⟨g, cap, cur, rfl, _⟩
    · exact ⟨_, _, rfl, trivial⟩
    · exact ⟨_, _, rfl, trivial⟩
  rw [hv] at hc3
  clear hown
  replace h := hide h
  replace hv := hide hv
  by_cases h38 : c = 38
  · have b1 := byte_eq c 38 38 rfl h38
    have HJ := hide (joins_and s c (Or.inl h38))
    have HA : Hid (around s.op = 0) := by show _ = _; rw [ho]; rfl
    clear h38 ho
    go_enter Tryz.func281, Tryz.ntmps281
    go_wp2_with fail
    go_end0
    rw [HJ.out, HA.out]
    exact ⟨rfl, ⟨v, (h.out.set0 0).set2 0 (by omega)⟩, Stn.below0.trans Stn.below0⟩
  · have b1 := byte_ne c 38 38 rfl h38
    by_cases h124 : c = 124
    · have b2 := byte_eq c 124 124 rfl h124
      have HJ := hide (joins_and s c (Or.inr h124))
      have HA : Hid (around s.op = 0) := by show _ = _; rw [ho]; rfl
      clear h38 ho h124
      go_enter Tryz.func281, Tryz.ntmps281
      go_wp2_with fail
      go_end0
      rw [HJ.out, HA.out]
      exact ⟨rfl, ⟨v, (h.out.set0 0).set2 0 (by omega)⟩, Stn.below0.trans Stn.below0⟩
    · have b2 := byte_ne c 124 124 rfl h124
      have HJ := hide (joins_no s c h38 h124 (fun _ => ho))
      clear h38 ho h124
      by_cases h41 : c = 41
      · have b3 := byte_eq c 41 41 rfl h41
        clear h41
        go_enter Tryz.func281, Tryz.ntmps281
        go_wp2_with fail
        go_end0
        rw [HJ.out]
        exact ⟨rfl, ⟨v, h.out.set0 4⟩, Stn.below0⟩
      · have b3 := byte_ne c 41 41 rfl h41
        clear h41
        go_enter Tryz.func281, Tryz.ntmps281
        go_wp2_with fail
        go_end0
        rw [HJ.out]
        exact ⟨rfl, ⟨v, h.out.set0 4⟩, Stn.below0⟩

theorem opV_cons (d : Nat) (t : List Nat) : opV (d :: t) = opV t ++ [.int .i64 (d : Int)] := by simp [opV]
theorem opV_length (l : List Nat) : (opV l).length = l.length := by simp [opV]

set_option maxHeartbeats 400000 in
set_option maxRecDepth 100000 in
theorem joins_cons (s : St) (v : Value) (c : UInt8) (S d : Nat) (t : List Nat) (w : World) (h : Stn w S s v) (ho : s.op = d :: t) :
    Calls Tryz.prog 281 #[.pointer (some ⟨S, 0, none⟩), .int .u8 c.toNat] w fun e w' => e = .returned (.tuple #[]) ∧ (∃ v', Stn w' S (joinsA s c) v') ∧ Below S w w' := by
  have hown := h.own
  have hc3 := h.c3
  have hc0 := h.c0
  have hc2 := h.c2
  have f0 := h.f 0
  have f2 := h.f 2
  have f3 := h.f 3
  have hd := h.ho d (by rw [ho]; simp)
  have hlen := h.hl
  obtain ⟨m, hm⟩ : ∃ m, t.length = m := ⟨_, rfl⟩
  rw [ho, List.length_cons, hm, opV_cons] at hown
  rw [ho, List.length_cons, hm] at hlen
  obtain ⟨g, cap, hv⟩ : ∃ g cap, v = .slice (some ⟨g, 0, none⟩) (m + 1) cap := by
    rcases hown.2 with ⟨_, hz⟩ | ⟨g, cap, cur, rfl, _⟩
    · omega
    · exact ⟨_, _, rfl⟩
  rw [hv] at hc3 hown
  have hcap : m + 1 ≤ cap := by
    rcases hown.2 with ⟨_, hz⟩ | ⟨g', cap', cur, hx, _, _, hle, _⟩
    · omega
    · cases hx; exact hle
  have hcell : w.cell? ⟨g, m, none⟩ = some (.int .i64 (d : Int)) := by
    rw [hown.cellAt m (by omega), List.getElem?_append_right (by rw [opV_length]; omega), opV_length, hm]; simp
  have i1 : (0 : Int) ≤ (m : Int) := by omega
  have i2 : (m : Int) < (m : Int) + 1 := by omega
  replace hown := hide hown
  replace h := hide h
  replace hv := hide hv
  replace hm := hide hm
  have HA : Hid (around s.op = d + 1) := by show _ = _; rw [ho]; rfl
  by_cases h38 : c = 38
  · have b1 := byte_eq c 38 38 rfl h38
    have HJ := hide (joins_and s c (Or.inl h38))
    clear h38 ho
    go_enter Tryz.func281, Tryz.ntmps281
    go_wp2_with fail
    go_quiet (fail)
    go_wp2_with fail
    go_end0
    rw [HJ.out, HA.out]
    exact ⟨rfl, ⟨v, ((h.out.drewN nq).set0 0).set2 (d + 1) (by omega)⟩, (bel_drewN S w nq).trans (Stn.below0.trans Stn.below0)⟩
  · have b1 := byte_ne c 38 38 rfl h38
    by_cases h124 : c = 124
    · have b2 := byte_eq c 124 124 rfl h124
      have HJ := hide (joins_and s c (Or.inr h124))
      clear h38 ho h124
      go_enter Tryz.func281, Tryz.ntmps281
      go_wp2_with fail
      go_quiet (fail)
      go_wp2_with fail
      go_end0
      rw [HJ.out, HA.out]
      exact ⟨rfl, ⟨v, ((h.out.drewN nq).set0 0).set2 (d + 1) (by omega)⟩, (bel_drewN S w nq).trans (Stn.below0.trans Stn.below0)⟩
    · have b2 := byte_ne c 124 124 rfl h124
      by_cases h41 : c = 41
      · have b3 := byte_eq c 41 41 rfl h41
        have HJ := hide (joins_shut s c h41 (by rw [ho]; simp))
        have HT : Hid (s.op.tail = t) := by show _ = _; rw [ho]; rfl
        clear h38 h124 h41 ho
        go_enter Tryz.func281, Tryz.ntmps281
        go_wp2_with fail
        go_quiet (fail)
        go_wp2_with fail
        go_region
        go_wp2_with fail
        go_end0
        rw [HJ.out, HT.out]
        have hop : ∀ x ∈ t, x ≤ 4 := fun x hx => h.out.ho x (by
          have := HT.out
          cases hop : s.op with
          | nil => rw [hop] at this; simp at this; rw [this] at hx; simp at hx
          | cons y u => rw [hop] at this; simp at this; rw [this]; simp [hx])
        have hown2 : ((w.drewN nq).setCell ⟨S, 0, none⟩ (.int .i64 2)).ownsRow (S + 1) 3 1 (.slice (some ⟨g, 0, none⟩) m cap) t.length (opV t) := by
          rw [hm.out]
          exact ownsRow_pop (by rw [opV_length, hm.out]; omega) (ownsRow_setCell_below (w := w.drewN nq) hown.out (by simp) _)
        exact ⟨rfl, ⟨_, (((h.out.drewN nq).set0 2).set3 _ t hown2 hop (by rw [hm.out]; omega)).drew⟩, ((bel_drewN S w nq).trans (Stn.below0.trans Stn.below0)).drew⟩
      · have b3 := byte_ne c 41 41 rfl h41
        have HJ := hide (joins_no s c h38 h124 (fun e => absurd e h41))
        clear h38 ho h124 h41
        go_enter Tryz.func281, Tryz.ntmps281
        go_wp2_with fail
        go_quiet (fail)
        go_wp2_with fail
        go_end0
        rw [HJ.out]
        exact ⟨rfl, ⟨v, (h.out.drewN nq).set0 4⟩, (bel_drewN S w nq).trans Stn.below0⟩

theorem joins_any (s : St) (v : Value) (c : UInt8) (S : Nat) (w : World) (h : Stn w S s v) :
    Calls Tryz.prog 281 #[.pointer (some ⟨S, 0, none⟩), .int .u8 c.toNat] w fun e w' => e = .returned (.tuple #[]) ∧ (∃ v', Stn w' S (joinsA s c) v') ∧ Below S w w' := by
  cases ho : s.op with
  | nil => exact joins_nil s v c S w h ho
  | cons d t => exact joins_cons s v c S d t w h ho
end Go.Proofs.YtpdoacfiiledcaaGreatDoor

namespace Go.Proofs.YtpdoacfiiledcaaGreatDoor
open Go.RowKit ChkM
set_option linter.unusedVariables false

theorem Tryz.info3 : (Tryz.prog.info? 3).map (fun i => (i.zero, i.size, i.bytes)) = some (some (.int .i64 0), 1, 8) := by kernel_rfl

theorem part_word (s : St) (c : UInt8) (h : isSm c = true) : partA s c = { { s with at_ := 1 } with n := 1 } := by unfold partA; rw [if_pos h]
theorem part_quote (s : St) (c : UInt8) (h : isSm c = false) (h2 : c = 34) : partA s c = { { s with at_ := 3 } with n := 0 } := by unfold partA; rw [if_neg (by simp [h]), if_pos h2]
theorem part_not (s : St) (c : UInt8) (h : isSm c = false) (h2 : c = 33) (hd : s.deep < 5) : partA s c = { s with deep := s.deep + 1 } := by
  subst h2; unfold partA; rw [if_neg (by simp [h]), if_neg (by decide), if_pos ⟨rfl, hd⟩]
theorem part_brack (s : St) (c : UInt8) (h : isSm c = false) (h2 : c = 40) (hd : s.deep < 5) : partA s c = { { s with op := s.deep :: s.op } with deep := s.deep + 1 } := by
  subst h2; unfold partA; rw [if_neg (by simp [h]), if_neg (by decide), if_neg (by simp), if_pos ⟨rfl, hd⟩]
theorem part_bad (s : St) (c : UInt8) (h : isSm c = false) (h2 : ¬ c = 34) (h3 : ¬ (c = 33 ∧ s.deep < 5)) (h4 : ¬ (c = 40 ∧ s.deep < 5)) : partA s c = { s with at_ := 4 } := by
  unfold partA; rw [if_neg (by simp [h]), if_neg h2, if_neg h3, if_neg h4]

/-- A station's cells behind an append onto its own row. -/
theorem far_cell {w w1 : World} {S : Nat} {o : Obj} {row : Option Nat} (hz : S < w.heap.size) (hne : some S ≠ row) (hg : (w.alloc o).drew.grownBy w1 row) (j : Nat) : w1.cell? ⟨S, j, none⟩ = w.cell? ⟨S, j, none⟩ := by
  rw [hg.cell_far ⟨S, j, none⟩ (by show S < (w.alloc o).heap.size; simp; omega) hne]
  show (w.alloc o).cell? _ = _
  rw [World.cell?_alloc_past _ _ _ hz]
theorem far_frozen {w w1 : World} {S : Nat} {o : Obj} {row : Option Nat} (hz : S < w.heap.size) (hne : some S ≠ row) (hg : (w.alloc o).drew.grownBy w1 row) (j : Nat) : w1.frozen? ⟨S, j, none⟩ = w.frozen? ⟨S, j, none⟩ := by
  rw [World.frozen?_of_block (w := (w.alloc o).drew) (hg.block S (by show S < (w.alloc o).heap.size; simp; omega) hne)]
  exact World.frozen?_of_block (w := w) (Below.heap_alloc w o S hz)
theorem far_all {w w1 : World} {S : Nat} {o : Obj} {row : Option Nat} {a b : Value} (hz : S < w.heap.size) (hne : some S ≠ row) (hg : (w.alloc o).drew.grownBy w1 row)
    (h3 : w.cell? ⟨S, 3, none⟩ = some a) (h2 : w.cell? ⟨S, 2, none⟩ = some b) (f3 : w.frozen? ⟨S, 3, none⟩ = false) (f2 : w.frozen? ⟨S, 2, none⟩ = false) :
    w1.cell? ⟨S, 3, none⟩ = some a ∧ w1.cell? ⟨S, 2, none⟩ = some b ∧ w1.frozen? ⟨S, 3, none⟩ = false ∧ w1.frozen? ⟨S, 2, none⟩ = false :=
  ⟨(far_cell hz hne hg 3).trans h3, (far_cell hz hne hg 2).trans h2, (far_frozen hz hne hg 3).trans f3, (far_frozen hz hne hg 2).trans f2⟩
theorem far_below {w w1 : World} {S : Nat} {o : Obj} {row : Option Nat} (hz : S < w.heap.size) (hr : ∀ k, row = some k → S ≤ k) (hg : (w.alloc o).drew.grownBy w1 row) : Below S w w1 :=
  ((Below.refl S w).alloc (by omega) o).drew.grown hg (by show S ≤ (w.alloc o).heap.size; simp; omega) hr

theorem Stn.push {w w1 : World} {S : Nat} {s : St} {v v' : Value} {o : Obj} (h : Stn w S s v) (hz : S < w.heap.size) (hne : some S ≠ v.ownBlock) (hg : (w.alloc o).drew.grownBy w1 v.ownBlock)
    (hown : w1.ownsRow (S + 1) 3 1 v' (s.op.length + 1) (opV s.op ++ [.int .i64 (s.deep : Int)])) (hl : s.op.length < 1000) (hd : s.deep < 5) :
    Stn (w1.setCell ⟨S, 3, none⟩ v') S { s with op := s.deep :: s.op } v' :=
  ⟨by rw [cell_ne (by decide), far_cell hz hne hg]; exact h.c0, by rw [cell_ne (by decide), far_cell hz hne hg]; exact h.c1, by rw [cell_ne (by decide), far_cell hz hne hg]; exact h.c2,
    World.cell?_setCell_same _ _ _ ((far_cell hz hne hg 3).trans h.c3), by
      show (w1.setCell ⟨S, 3, none⟩ v').ownsRow (S + 1) 3 1 v' (s.op.length + 1) (opV (s.deep :: s.op))
      rw [opV_cons]; exact ownsRow_setCell_below hown (by simp) _,
    fun j => by rw [World.frozen?_setCell, far_frozen hz hne hg]; exact h.f j, h.hn, h.hd, fun x hx => by
      rcases List.mem_cons.1 hx with rfl | hx
      · omega
      · exact h.ho x hx, by show s.op.length + 1 ≤ 1000; omega⟩

set_option maxHeartbeats 1000000 in
set_option maxRecDepth 100000 in
theorem part_open_any (s : St) (v : Value) (c : UInt8) (S : Nat) (w : World) (h : Stn w S s v) (hl : s.op.length < 1000) (hz : S < w.heap.size) (hw : isSm c = false) (hc : c = 40) (hd : s.deep < 5) :
    Calls Tryz.prog 280 #[.pointer (some ⟨S, 0, none⟩), .int .u8 c.toNat] w fun e w' => e = .returned (.tuple #[]) ∧ (∃ v', Stn w' S (partA s c) v') ∧ Below S w w' := by
  obtain ⟨i0, hi, hz0, hz1, hz2⟩ := info_parts Tryz.info3
  have hown := h.own
  have hc3 := h.c3
  have hc2 := h.c2
  have f2 := h.f 2
  have f3 := h.f 3
  have HJ := hide (part_brack s c hw hc hd)
  have b1 := byte_ne c 34 34 rfl (by rw [hc]; decide)
  have b2 := byte_ne c 33 33 rfl (by rw [hc]; decide)
  have b3 := byte_eq c 40 40 rfl hc
  have hne : some S ≠ v.ownBlock := fun e => by have := (hown.lt S e.symm).1; omega
  replace h := hide h
  replace hown := hide hown
  clear hc
  go_enter Tryz.func280, Tryz.ntmps280
  go_wp2_with fail
  refine (isWord_any _ _).mono ?_
  rintro e w' ⟨rfl, rfl⟩
  rw [hw]
  go_wp2_with fail
  go_region_law ((refine step_append_lies _ (by rfl) _ _ _ (by rfl) (S + 1) 3 i0 _ 1 8 Tryz.underlying24 hi hz0 hz1 hz2 rfl (by omega) v s.op.length (opV s.op) (by rfl) ((hown.out.alloc _).drew) ⟨w'.heap.size, 0, none⟩ 1 1 [.int .i64 (s.deep : Int)] (by rfl) (by rfl) (World.news_of_block (cs := #[.int .i64 (s.deep : Int)]) (t := 3) (fr := (0, 0)) (heap_alloc_new w' _)) (by simp [Value.oneCell']) (by omega) (by unfold maxLen; omega) (by omega) (by simp; omega) (w'.heap.size + 1) (by simp) ?_; intro g cap w1 hown1 hgrow hat hlt; obtain ⟨d3, d2, e3, e2⟩ := far_all hz hne hgrow hc3 hc2 f3 f2))
  all_goals
    go_wp2_with fail
    go_end0
    rw [HJ.out]
    exact ⟨rfl, ⟨_, (h.out.push hz hne hgrow hown1 hl hd).set2 (s.deep + 1) (by omega)⟩, (far_below hz (fun k hk => by have := (hown.out.lt k hk).1; omega) hgrow).trans (Stn.below0.trans Stn.below0)⟩
end Go.Proofs.YtpdoacfiiledcaaGreatDoor

