/-
  name: a path of a number.
-/
import Derived.Test.YtfjdfdpelilelaaDoorFAwake
namespace Go.Proofs.YtfjdfdpelilelaaDoor
open Go.RowKit

def nameL (i : Nat) : List UInt8 := [102, UInt8.ofNat (97 + i / 10), UInt8.ofNat (48 + i % 10)]
def nameS (i : Nat) : ByteArray := ⟨(nameL i).toArray⟩

theorem name_bytes (i : Nat) (w : World) : (convert 54 9 (.slice (some ⟨w.heap.size, 0, none⟩) 2 2)).run Tryd.prog (w.alloc (.cells #[.int .u8 (97 + (i : Int) / 10), .int .u8 (48 + (i : Int) % 10)] 5)) =
    .ok (.string (strOfNums [97 + i / 10, 48 + i % 10])) (w.alloc (.cells #[.int .u8 (97 + (i : Int) / 10), .int .u8 (48 + (i : Int) % 10)] 5)) := by
  refine run_convert_bytes_arg (P := Tryd.prog) _ 54 5 Tryd.underlying54 Tryd.underlying5 w.heap.size 0 2 2 [97 + i / 10, 48 + i % 10] (by simp) (fun j hj => ?_) 9 Tryd.underlying9
  rw [Lib.cell_of_heap (heap_alloc_new w _)]
  match j, hj with
  | 0, _ => simp
  | 1, _ => simp

theorem name_cat (i : Nat) : (⟨#[102]⟩ : ByteArray) ++ strOfNums [97 + i / 10, 48 + i % 10] = nameS i := by
  apply ByteArray.ext
  have e1 : ((97 : Int) + (i : Int) / 10).toNat = 97 + i / 10 := by omega
  have e2 : ((48 : Int) + (i : Int) % 10).toNat = 48 + i % 10 := by omega
  simp only [strOfNums, nameS, nameL, List.map_cons, List.map_nil, e1, e2, ByteArray.data_append]
  rfl

set_option maxRecDepth 100000 in
theorem name_any (i : Nat) (hi : i < 60) (w : World) :
    Calls Tryd.prog 15 #[.int .i64 (i : Int)] w fun e w' => e = .returned (.string (nameS i)) ∧ Below w.heap.size w w' := by
  have h1 : (0 : Int) ≤ (i : Int) := by omega
  have h2 : (i : Int) < 60 := by omega
  have hb := name_bytes i w
  have hz : (strOfNums [97 + i / 10, 48 + i % 10]).size = 2 := by rw [strOfNums_size]; rfl
  have HC := Lib.hid (name_cat i)
  obtain ⟨z, hzz⟩ : ∃ z, strOfNums [97 + i / 10, 48 + i % 10] = z := ⟨_, rfl⟩
  rw [hzz] at hb hz HC
  have hcat : ¬ 9223372036854775807 < 1 + z.size := by omega
  have HB := Lib.hid ((Below.refl w.heap.size w).alloc (Nat.le_refl _) (.cells #[.int .u8 (97 + (i : Int) / 10), .int .u8 (48 + (i : Int) % 10)] 5))
  clear hzz hz
  go_enter Tryd.func15, Tryd.ntmps15
  go_wp2
  rw [HC.out]
  go_ret
  exact ⟨rfl, HB.out⟩

theorem nameS_list (i : Nat) : (nameS i).data.toList = nameL i := rfl
theorem nameS_size (i : Nat) : (nameS i).size = 3 := rfl
theorem name_valid : ∀ i, i < 60 → validB (nameL i) = true := by decide
theorem name_inj {i j : Nat} (hi : i < 60) (hj : j < 60) (h : nameL i = nameL j) : i = j := by
  have : ∀ i, i < 60 → ∀ j, j < 60 → nameL i = nameL j → i = j := by decide
  exact this i hi j hj h

end Go.Proofs.YtfjdfdpelilelaaDoor
