import Derived.Test.YtpdoacfiiledcaaGreatDoorSplA
import Derived.Lib.SlBytesRow
import Derived.Lib.ConvBytes
namespace Go.Proofs.YtpdoacfiiledcaaGreatDoor.Spl
open Go.RowKit Go.Proofs.YtpdoacfiiledcaaGreatDoor Go.Proofs.YtpdoacfiiledcaaGreatDoor.SiftM

theorem one_byte (w : World) (x : Int) (c : UInt8) (hx : (c.toNat : Int) = x) : Lib.Bytes (w.alloc (.cells #[.int .u8 x] 5)) w.heap.size 0 ⟨#[c]⟩ := by
  intro i hi
  have hz : (ByteArray.mk #[c]).size = 1 := rfl
  have : i = 0 := by omega
  subst this
  rw [World.cell?_alloc_at _ _ _ _ rfl, ← hx]; rfl

theorem conv_one (x : Int) (c : UInt8) (hx : (c.toNat : Int) = x) (w : World) :
    (convert 112 9 (.slice (some ⟨w.heap.size, 0, none⟩) 1 1)).run Tryz.prog (w.alloc (.cells #[.int .u8 x] 5)) = .ok (.string ⟨#[c]⟩) (w.alloc (.cells #[.int .u8 x] 5)) :=
  Lib.run_convert_whole (P := Tryz.prog) _ 112 5 9 Tryz.underlying112 Tryz.underlying5 Tryz.underlying9 w.heap.size 0 ⟨#[c]⟩ (one_byte w x c hx) 1

theorem mk_snoc (l : List UInt8) (d : UInt8) : (ByteArray.mk l.toArray ++ ByteArray.mk #[d]) = ByteArray.mk (l ++ [d]).toArray := Go.ByteArray.mk_append_mk l [d]
theorem take_snoc (s : ByteArray) (k : Nat) (h : k < s.size) : s.data.toList.take (k + 1) = s.data.toList.take k ++ [s[k]] := by
  rw [List.take_succ_eq_append_getElem (by simpa using h)]; rfl
theorem val_str {a b : ByteArray} (h : a = b) : Value.string a = Value.string b := by rw [h]

end Go.Proofs.YtpdoacfiiledcaaGreatDoor.Spl
