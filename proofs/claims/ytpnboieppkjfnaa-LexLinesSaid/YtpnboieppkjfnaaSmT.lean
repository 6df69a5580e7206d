/-
  The document's SameToken and SameDiags, of what is the same.
-/
import Derived.Test.YtpnboieppkjfnaaLBytes
import Derived.BigQuiet
namespace Go.Proofs.Ytpnboieppkjfnaa
open Go.RowKit

def tokV (F : ByteArray) (t : Tk) : Value := .agg #[.int .i64 (t.k : Int), .string ⟨t.x.toArray⟩, .bool t.sp, .string F, .int .i64 (t.f : Int), .int .i64 (t.t : Int), .bool false, .slice none 0 0]
def TruePost (w : World) (e : Ending) (w' : World) : Prop := e = .returned (.bool true) ∧ Below w.heap.size w w'

set_option maxRecDepth 100000 in
set_option maxHeartbeats 1600000 in
theorem sameToken_any (F : ByteArray) (t : Tk) (w : World) : Calls Try.prog 45 #[tokV F t, tokV F t] w (TruePost w) := by
  unfold tokV
  obtain ⟨X, hX⟩ : ∃ X : ByteArray, (⟨t.x.toArray⟩ : ByteArray) = X := ⟨_, rfl⟩
  rw [hX]
  clear hX
  go_enter Try.func45, Try.ntmps45
  go_wp2
  obtain ⟨o, ho⟩ : ∃ o : Obj, Obj.cells #[.int .i64 (t.k : Int), .string X, .bool t.sp, .string F, .int .i64 (t.f : Int), .int .i64 (t.t : Int), .bool false, .slice none 0 0] 41 = o := ⟨_, rfl⟩
  have hB : Below w.heap.size w ((w.alloc o).alloc o) := ((Below.refl _ _).alloc (Nat.le_refl _) o).alloc (by simp) o
  have hc : ((w.alloc o).alloc o).cell? ⟨w.heap.size, 7, none⟩ = some (.slice none 0 0) := by
    rw [Lib.cell_of_heap (show ((w.alloc o).alloc o).heap[w.heap.size]? = some (.cells #[.int .i64 (t.k : Int), .string X, .bool t.sp, .string F, .int .i64 (t.f : Int), .int .i64 (t.t : Int), .bool false, .slice none 0 0] 41 (0, 0)) from by rw [heap_one, ho])]
    rfl
  rw [ho]
  obtain ⟨w2, hw2⟩ : ∃ w2, (w.alloc o).alloc o = w2 := ⟨_, rfl⟩
  rw [hw2] at hB hc ⊢
  have HB := Lib.hid hB
  clear hB hw2 ho
  go_loop [5] (fun i => i = .int .i64 0) (fun _ => 1)
  case atStart => rfl
  case round =>
    subst hrel
    go_wp2
    go_ret
    exact ⟨rfl, HB.out⟩

def diagV (F : ByteArray) (d : Dg) : Value := .agg #[.int .i64 (d.c : Int), .string F, .int .i64 (d.f : Int), .int .i64 (d.t : Int)]

set_option maxRecDepth 100000 in
set_option maxHeartbeats 1600000 in
theorem sameDiags_any {F : ByteArray} {D : List Dg} {v v' : Value} {w : World} (h : DiagsAt F D v w) (h' : DiagsAt F D v' w) : Calls Try.prog 13 #[v, v'] w (TruePost w) := by
  obtain ⟨a, cap, rfl, hc1, hc2, hcell⟩ := h
  obtain ⟨a', cap', rfl, hc1', hc2', hcell'⟩ := h'
  have HC := Lib.hid hcell
  have HC' := Lib.hid hcell'
  unfold maxLen at hc2 hc2'
  clear hcell hcell'
  have x0 : (((D.length : Nat) : Int) != ((D.length : Nat) : Int)) = false := by simp
  go_enter Try.func13, Try.ntmps13
  go_wp2
  go_loopw [5] (fun i wr => ∃ k : Nat, i = .int .i64 (k : Int) ∧ k ≤ D.length ∧ Below w.heap.size w wr) (fun i _ => D.length - (intOf i).toNat)
  case atStart => exact ⟨0, rfl, Nat.zero_le _, Below.refl _ _⟩
  case round =>
    obtain ⟨k, rfl, hk, hb⟩ := hrel
    by_cases hlt : k < D.length
    · obtain ⟨d, hd⟩ : ∃ d, D[k]? = some d := ⟨_, List.getElem?_eq_getElem hlt⟩
      obtain ⟨g, rfl, hg, e0, e1, e2, e3⟩ := HC.out k d hd
      obtain ⟨g', rfl, hg', f0, f1, f2, f3⟩ := HC'.out k d hd
      have e0 := bcell hb e0 hg
      have e1 := bcell hb e1 hg
      have e2 := bcell hb e2 hg
      have e3 := bcell hb e3 hg
      have f0 := bcell hb f0 hg'
      have f1 := bcell hb f1 hg'
      have f2 := bcell hb f2 hg'
      have f3 := bcell hb f3 hg'
      have hkI : (k : Int) < (D.length : Int) := by omega
      have hk0 : (0 : Int) ≤ (k : Int) := by omega
      have HB := Lib.hid hb
      clear hb hd
      go_wp2
      go_quiet (fail)
      go_wp2
      go_roundw
      case rel => exact ⟨k + 1, by go_num, hlt, HB.out.trans ((Below.of_drews _ _).mono HB.out.size)⟩
      case measure => simp [intOf]; omega
    · have hkI : ¬ (k : Int) < (D.length : Int) := by omega
      go_wp2
      go_ret
      exact ⟨rfl, hb⟩

end Go.Proofs.Ytpnboieppkjfnaa
