/-
  awake of the law: what the document fixes.
-/
import Derived.Test.YtlbjogdlapjfeaaSame
namespace Go.Proofs.Ytlbjogdlapjfeaa
open Go.RowKit

theorem rrow_lit (w : World) (cs : Array Value) (L : List Rn) (n : Nat) (hn : n = L.length) (h : cs.toList = rcells L) (hs : n ≤ 1000) : RRow w (.slice (some ⟨w.heap.size, 0, none⟩) n n) L (w.alloc (.cells cs 38)) := by
  subst hn
  have hz : cs.size = L.length * 3 := by rw [← Array.length_toList, h, rcells_len]
  refine ⟨⟨rcells_len L, .inr ⟨w.heap.size, L.length, cs, rfl, Nat.le_refl _, heap_alloc_new _ _, Nat.le_refl _, by unfold maxLen; omega, hz, ?_⟩⟩, (Below.refl _ _).alloc (Nat.le_refl _) _⟩
  rw [h, ← rcells_len L]
  exact List.take_length

def awakeText : ByteArray := ⟨#[97, 92, 10, 98, 63, 63, 61]⟩
def awakeL : List Rn := [⟨97, 0, 1⟩, ⟨98, 3, 4⟩, ⟨35, 4, 7⟩, ⟨10, 7, 7⟩]
theorem awake_chars : charsL awakeText.data.toList = awakeL := by rfl
theorem awake_back : backL (⟨#[97, 92, 10, 98]⟩ : ByteArray).data.toList 0 4 = [97, 98] := by rfl

def LitPost (W : World) (v : Value) (e : Ending) (w' : World) : Prop := e = .returned v ∧ W = w'
def AwakePost (W : World) (e : Ending) (w' : World) : Prop := e = .returned (.bool true) ∧ Below W.heap.size W w'

theorem tri_lt (w : World) : Calls Try.prog 8 #[.int .u8 60] w (LitPost w (.tuple #[.int .u8 123, .bool true])) := by
  refine (tri_any 60 w).mono ?_
  rintro e w' ⟨rfl, rfl⟩
  exact ⟨rfl, rfl⟩
theorem tri_q (w : World) : Calls Try.prog 8 #[.int .u8 63] w (LitPost w (.tuple #[.int .u8 0, .bool false])) := by
  refine (tri_any 63 w).mono ?_
  rintro e w' ⟨rfl, rfl⟩
  exact ⟨rfl, rfl⟩
theorem chars_lit (w : World) : Calls Try.prog 11 #[.string ⟨#[97, 92, 10, 98, 63, 63, 61]⟩] w (CRowPost w awakeL) := by
  rw [← awake_chars]
  exact chars_any awakeText w (by decide)
theorem back_lit (w : World) : Calls Try.prog 13 #[.string ⟨#[97, 92, 10, 98]⟩, .int .i64 0, .int .i64 4] w (TextPost w [97, 98]) := by
  rw [← awake_back]
  exact back_any ⟨#[97, 92, 10, 98]⟩ 0 4 w (by decide) (by decide)

theorem awake_row (w : World) : RRow w (.slice (some ⟨w.heap.size, 0, none⟩) 4 4) awakeL (w.alloc (.cells #[.int .u8 97, .int .i64 0, .int .i64 1, .int .u8 98, .int .i64 3, .int .i64 4, .int .u8 35, .int .i64 4, .int .i64 7, .int .u8 10, .int .i64 7, .int .i64 7] 38)) :=
  rrow_lit w _ awakeL 4 rfl rfl (by decide)

theorem same_lit {W w1 : World} {a1 : Option Addr} {cap1 : Nat} (h : CRow W (.slice a1 4 cap1) awakeL w1) :
    Calls Try.prog 10 #[.slice a1 4 cap1, .slice (some ⟨w1.heap.size, 0, none⟩) 4 4] (w1.alloc (.cells #[.int .u8 97, .int .i64 0, .int .i64 1, .int .u8 98, .int .i64 3, .int .i64 4, .int .u8 35, .int .i64 4, .int .i64 7, .int .u8 10, .int .i64 7, .int .i64 7] 38)) (AwakePost (w1.alloc (.cells #[.int .u8 97, .int .i64 0, .int .i64 1, .int .u8 98, .int .i64 3, .int .i64 4, .int .u8 35, .int .i64 4, .int .i64 7, .int .u8 10, .int .i64 7, .int .i64 7] 38))) :=
  same_any (Up.alloc h _) (awake_row _) rfl (by decide)

set_option maxRecDepth 100000 in
set_option maxHeartbeats 1600000 in
theorem awake_any (w : World) : Calls Try.prog 7 #[] w (AwakePost w) := by
  go_enter Try.func7, Try.ntmps7
  go_wp2_with (first
    | (go_at_call 11; (with_reducible refine (chars_lit _).mono ?_); rintro e w1 ⟨a1, n1, cap1, hn1, rfl, u1⟩; obtain rfl : n1 = 4 := hn1; have U1 := Lib.hid u1; clear u1)
    | (go_at_call 8; (with_reducible refine (tri_lt _).mono ?_); rintro e w' ⟨rfl, rfl⟩)
    | (go_at_call 8; (with_reducible refine (tri_q _).mono ?_); rintro e w' ⟨rfl, rfl⟩)
    | (go_at_call 10; (with_reducible refine (same_lit U1.out).mono ?_); rintro e w2 ⟨rfl, b2⟩; have B2 := Lib.hid b2; clear b2)
    | (go_at_call 13; (with_reducible refine (back_lit _).mono ?_); rintro e w3 ⟨rfl, b3⟩; have B3 := Lib.hid b3; clear b3))
  go_ret
  exact ⟨rfl, U1.out.2.trans ((((Below.refl _ _).alloc (Nat.le_refl _) _).trans (B2.out.mono (by simp))).trans (B3.out.mono ((by have := B2.out.size; simp at this; omega)))|>.mono U1.out.2.size)⟩

end Go.Proofs.Ytlbjogdlapjfeaa
