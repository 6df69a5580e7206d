/-
  The document's own text of characters, walked.
-/
import Derived.Test.YtpnboieppkjfnaaRxCo
namespace Go.Proofs.Ytpnboieppkjfnaa
open Go.RowKit

/-- A part of a row of the document's characters, as its signs are read. -/
def TsAt (T : List Rn) (v : Value) (w : World) : Prop :=
  ∃ g o cap, v = .slice (some ⟨g, o, none⟩) T.length cap ∧ T.length ≤ cap ∧ cap ≤ maxLen ∧ ∀ k r, T[k]? = some r → g < w.heap.size ∧ w.cell? ⟨g, o + k * 3, none⟩ = some (.int .u8 (r.c.toNat : Int))

def RTextRel (W : World) (C : List Rn) (o i : Value) (w : World) : Prop :=
  ∃ (k : Nat) (bs : List UInt8) (ad : Option Addr) (n cap : Nat), i = .int .i64 (k : Int) ∧ k ≤ C.length ∧ o = .slice ad n cap ∧ n = bs.length ∧ bs.length = k ∧ bs ++ bytesOf (C.drop k) = bytesOf C ∧ BRow W o bs w

theorem rtext_in {W : World} {C : List Rn} {k : Nat} {bs : List UInt8} {w : World} {ad : Option Addr} {cap : Nat} {r : Rn} {i : Int} (hi : i = ((k + 1 : Nat) : Int)) (hr : C[k]? = some r) (hk : k < C.length) (hLk : bs.length = k) (hL : bs ++ bytesOf (C.drop k) = bytesOf C) (hU : BRow W (.slice ad (bs.length + 1) cap) (bs ++ [r.c]) w) :
    RTextRel W C (.slice ad (bs.length + 1) cap) (.int .i64 i) w := by
  refine ⟨k + 1, bs ++ [r.c], ad, bs.length + 1, cap, by rw [hi], hk, rfl, by simp, by simp; omega, ?_, hU⟩
  rw [← hL, drop_get hr, List.append_assoc]
  rfl

set_option maxRecDepth 100000 in
set_option maxHeartbeats 1600000 in
theorem rtext_any {C : List Rn} {v : Value} {w : World} (h : TsAt C v w) (hs : C.length ≤ 1000000) : Calls Try.prog 25 #[v] w (TextPost w (bytesOf C)) := by
  obtain ⟨i0, hi, hz0, hz1, hz2⟩ := info_parts Try.infoByte
  obtain ⟨g, off, cp, rfl, hc1, hc2, hcell⟩ := h
  have HC := Lib.hid hcell
  have R0 : Up w 5 1 (.slice none 0 0) 0 [] w := up_nil w _ 1
  have HR0 := Lib.hid R0
  obtain ⟨B, hB⟩ : ∃ B, bytesOf C = B := ⟨_, rfl⟩
  have HBB := Lib.hid hB
  rw [hB]
  unfold maxLen at hc2
  clear hcell R0 hB
  go_enter Try.func25, Try.ntmps25
  go_wp2
  go_loopw [3, 4] (fun o i w' => RTextRel w C o i w') (fun _ i _ => C.length - (intOf i).toNat)
  case atStart => exact ⟨0, [], none, 0, 0, rfl, Nat.zero_le _, rfl, rfl, rfl, rfl, HR0.out⟩
  case round =>
    obtain ⟨k, bs, ad, n, cap, rfl, hk, rfl, rfl, hLk, hL, hU⟩ := hrel
    have HU := Lib.hid hU
    have HLL := Lib.hid hL
    have HLk := Lib.hid hLk
    clear hU hL hLk
    by_cases hlt : k < C.length
    · obtain ⟨r, hr⟩ : ∃ r, C[k]? = some r := ⟨_, List.getElem?_eq_getElem hlt⟩
      obtain ⟨hg, d0⟩ := HC.out k r hr
      have e0 := Up.cell HU.out hg d0
      have HR := Lib.hid hr
      have hki : (k : Int) < (C.length : Int) := by omega
      have hbs : bs.length < 1000000 := by have := HLk.out; omega
      clear d0 hr
      go_wp2_with (at_builtin; refine wpList_append_ex rfl (.tmp 11) (.tmp 17) 46 rfl _ (app_up Try.underlying46 hi hz0 hz1 hz2 rfl (by decide) (by decide) (HU.out.alloc _) (src_one _ _ _) byte_one (by omega)) ?_; intro v2 w3 hu2; obtain ⟨a3, cap3, rfl, -, -, -⟩ := row_form hu2.1; have U3 := Lib.hid (BRow.push r.c hu2 rfl); clear hu2)
      go_roundw
      case rel => exact rtext_in (by simp) HR.out hlt HLk.out HLL.out U3.out
      case measure => simp [intOf]; omega
    · have hki : ¬ (k : Int) < (C.length : Int) := by omega
      have ht := brow_text HU.out
      go_wp2
      go_ret
      have h3 := HLL.out
      rw [List.drop_eq_nil_of_le (by omega : C.length ≤ k), show bytesOf [] = [] from rfl, List.append_nil, HBB.out] at h3
      rw [← h3]
      exact ⟨rfl, HU.out.2⟩

end Go.Proofs.Ytpnboieppkjfnaa
