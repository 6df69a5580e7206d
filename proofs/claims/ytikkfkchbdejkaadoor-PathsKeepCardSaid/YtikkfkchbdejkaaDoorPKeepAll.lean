/-
  PathsKeep: the walk where both are clean.
-/
import Derived.Test.YtikkfkchbdejkaaDoorPKeepLaw
namespace Go.Proofs.YtikkfkchbdejkaaDoor
open Go.RowKit

set_option maxHeartbeats 6400000 in
set_option maxRecDepth 100000 in
theorem keep_both (d p a k : ByteArray) (w : World) (hd : d.size ≤ 100) (hp : p.size ≤ 100) (hx : cleanL p.data.toList = some a.data.toList) (hk : cleanL d.data.toList = some k.data.toList) :
    Calls Tryd.prog 4 #[.string d, .string p] w fun e w' => e = .returned (.bool true) ∧ Below w.heap.size w w' := by
  have hnot : ∀ (x : Bool) (w : World), (Op.unary .not (.bool x)).run Tryd.prog w = .ok (.bool (!x)) w := fun _ _ => rfl
  have hv := (cleanL_some hx).1
  have hvk := (cleanL_some hk).1
  have hva := valid_size hv
  have hvs := valid_size hvk
  have s2 : (⟨#[46, 47]⟩ : ByteArray).size = 2 := rfl
  have s3 : (⟨#[47, 46]⟩ : ByteArray).size = 2 := rfl
  have s4 : (⟨#[46, 46, 47]⟩ : ByteArray).size = 3 := rfl
  have hcat1 := catFits (a := ⟨#[46, 47]⟩) (b := p) (by rw [s2]; omega)
  have hcat2 := catFits (a := ⟨#[46, 47]⟩ ++ p) (b := ⟨#[47, 46]⟩) (by rw [ByteArray.size_append, s2, s3]; omega)
  have hcat3 := catFits (a := k) (b := ⟨#[47]⟩) (by rw [size47]; omega)
  have hcat4 := catFits (a := k ++ ⟨#[47]⟩) (b := a) (by rw [ByteArray.size_append, size47]; omega)
  have C1 := Lib.hid (clean_to (by omega) hx)
  have C2 := Lib.hid (clean_to (s := a) (a := a) (by omega) (cleanL_valid hv))
  have C3 := Lib.hid (clean_to (s := ⟨#[46, 47]⟩ ++ p ++ ⟨#[47, 46]⟩) (a := a) (by rw [ByteArray.size_append, ByteArray.size_append, s2, s3]; omega) (by rw [cat_list, cat_list]; exact cleanL_dots hx))
  have C4 := Lib.hid (clean_to (by omega) hk)
  have V1 := Lib.hid (valid_to (by omega) hv)
  have hm := partsAux_len [] k.data.toList
  have hm1 := partsAux_pos [] k.data.toList
  have hJ := joinPath_valid hvk hv
  have hJB := joinPath_back hvk hv
  rw [bsize, bsize] at hJ
  rw [bsize] at hm
  change (partsL k.data.toList).length ≤ k.size + 1 at hm
  change 1 ≤ (partsL k.data.toList).length at hm1
  obtain ⟨m, hmm⟩ : ∃ m, (partsL k.data.toList).length = m := ⟨_, rfl⟩
  rw [hmm] at hm hm1 hJB
  have P1 : Hid (∀ w, Calls Tryd.prog 15 #[.string k] w fun e w' => (∃ g cap, e = .returned (.slice (some ⟨g, 0, none⟩) m cap)) ∧ Below w.heap.size w w') := by
    intro w
    refine (parts_any k w (by omega)).mono ?_
    rintro e w' ⟨v, rfl, hown, hb⟩
    obtain ⟨g, cap, rfl, -⟩ := OwnStrs.form hown (by rw [hmm]; exact hm1)
    rw [hmm]
    exact ⟨⟨g, cap, rfl⟩, hb⟩
  have HJ := Lib.hid hJ
  have J2 : Hid (∀ (T : ByteArray), T.data.toList = upsL m → ∀ w, Calls Tryd.prog 9 #[.string k, .string (T ++ a)] w fun e w' => e = .returned (.tuple #[.string a, .int .i64 0]) ∧ Below w.heap.size w w') := by
    intro T hT w
    have hl := upsL_len m
    rw [← hT, bsize] at hl
    refine join_to (by rw [ByteArray.size_append]; omega) ?_ w
    rw [cat_list, hT]
    exact hJB
  have hd' : ¬ (100 : Int) < (d.size : Int) := by omega
  have hp' : ¬ (100 : Int) < (p.size : Int) := by omega
  obtain ⟨tx, nx, J1, hfin⟩ : ∃ (tx : ByteArray) (nx : Int), Hid (∀ w, Calls Tryd.prog 9 #[.string k, .string a] w fun e w' => e = .returned (.tuple #[.string tx, .int .i64 nx]) ∧ Below w.heap.size w w') ∧
      ((k.size + 1 + a.size ≤ 80 ∧ tx = k ++ ⟨#[47]⟩ ++ a ∧ nx = 0) ∨ (80 < k.size + 1 + a.size ∧ nx = 1)) := by
    by_cases hlen : k.size + 1 + a.size ≤ 80
    · refine ⟨k ++ ⟨#[47]⟩ ++ a, 0, ?_, .inl ⟨hlen, rfl, rfl⟩⟩
      intro w
      refine join_to (by omega) ?_ w
      rw [HJ.out, if_pos hlen, cat_list, cat_list]
      simp
    · refine ⟨⟨#[]⟩, 1, ?_, .inr ⟨by omega, rfl⟩⟩
      intro w
      refine join_not (by omega) ?_ w
      rw [HJ.out, if_neg hlen]
  have HFIN := Lib.hid hfin
  clear hx hk hv hvk s2 s3 hmm hJ hJB hfin HJ
  go_enter Tryd.func4, Tryd.ntmps4
  go_wp2_with (first
    | (go_at_call 7; (with_reducible refine (C1.out _).mono ?_); rintro e w1 ⟨rfl, b1⟩; have B1 := Lib.hid b1; clear b1 C1)
    | (go_at_call 7; (with_reducible refine (C2.out _).mono ?_); rintro e w2 ⟨rfl, b2⟩; have B2 := Lib.hid (B1.out.trans (b2.mono B1.out.size)); clear b2 C2)
    | (go_at_call 7; (with_reducible refine (C3.out _).mono ?_); rintro e w3 ⟨rfl, b3⟩; have B3 := Lib.hid (B2.out.trans (b3.mono B2.out.size)); clear b3 C3)
    | (go_at_call 11; (with_reducible refine (V1.out _).mono ?_); rintro e w4 ⟨rfl, b4⟩; have B4 := Lib.hid (B3.out.trans (b4.mono B3.out.size)); clear b4)
    | (go_at_call 7; (with_reducible refine (C4.out _).mono ?_); rintro e w5 ⟨rfl, b5⟩; have B5 := Lib.hid (B4.out.trans (b5.mono B4.out.size)); clear b5 C4)
    | (go_at_call 9; (with_reducible refine (J1.out _).mono ?_); rintro e w6 ⟨rfl, b6⟩; have B6 := Lib.hid (B5.out.trans (b6.mono B5.out.size)); clear b6 J1))
  go_loopw [15, 16] (BackRel w m) (fun _ i _ => m - (intOf i).toNat)
  case atStart => exact ⟨0, ⟨#[]⟩, rfl, rfl, Nat.zero_le _, rfl, B6.out⟩
  case round =>
    obtain ⟨n, T, rfl, rfl, hn, hT, hbw⟩ := hrel
    have HT := Lib.hid hT
    have HW := Lib.hid hbw
    have hTs : T.size = 3 * n := by rw [← bsize, hT, upsL_len]
    clear hT hbw
    by_cases hnm : n < m
    · have hcat5 := catFits (a := T) (b := ⟨#[46, 46, 47]⟩) (by rw [s4]; omega)
      have hnm' : (n : Int) < (m : Int) := by omega
      go_wp2_with (go_at_call 15; (with_reducible refine (P1.out _).mono ?_); rintro e w7 ⟨⟨g, cap, rfl⟩, b7⟩; have B7 := Lib.hid (HW.out.trans (b7.mono HW.out.size)); clear b7)
      go_roundw
      case rel =>
        refine ⟨n + 1, T ++ ⟨#[46, 46, 47]⟩, rfl, by go_num, hnm, ?_, B7.out⟩
        rw [cat_list, HT.out]
        rfl
      case measure => simp [intOf]; omega
    · have hne : n = m := by omega
      rw [hne] at HT
      have hnm' : ¬ (n : Int) < (m : Int) := by omega
      have hcat6 := catFits (a := T) (b := a) (by omega)
      have J3 := Lib.hid (J2.out T HT.out)
      rcases HFIN.out with ⟨hl, h1, h2⟩ | ⟨hl, h2⟩
      · subst h1 h2
        have hl' : ¬ (80 : Int) < (k.size : Int) + 1 + (a.size : Int) := by omega
        go_wp2_with (first
          | (go_at_call 15; (with_reducible refine (P1.out _).mono ?_); rintro e w7 ⟨⟨g, cap, rfl⟩, b7⟩; have B7 := Lib.hid (HW.out.trans (b7.mono HW.out.size)); clear b7)
          | (go_at_call 9; (with_reducible refine (J3.out _).mono ?_); rintro e w8 ⟨rfl, b8⟩; have B8 := Lib.hid (B7.out.trans (b8.mono B7.out.size)); clear b8)
          | (go_at_call 6; (with_reducible refine (awake_any _).mono ?_); rintro e w9 ⟨rfl, b9⟩; have B9 := Lib.hid (B8.out.trans (b9.mono B8.out.size)); clear b9))
        go_ret
        exact ⟨rfl, B9.out⟩
      · subst h2
        have hl' : (80 : Int) < (k.size : Int) + 1 + (a.size : Int) := by omega
        go_wp2_with (first
          | (go_at_call 15; (with_reducible refine (P1.out _).mono ?_); rintro e w7 ⟨⟨g, cap, rfl⟩, b7⟩; have B7 := Lib.hid (HW.out.trans (b7.mono HW.out.size)); clear b7)
          | (go_at_call 9; (with_reducible refine (J3.out _).mono ?_); rintro e w8 ⟨rfl, b8⟩; have B8 := Lib.hid (B7.out.trans (b8.mono B7.out.size)); clear b8)
          | (go_at_call 6; (with_reducible refine (awake_any _).mono ?_); rintro e w9 ⟨rfl, b9⟩; have B9 := Lib.hid (B8.out.trans (b9.mono B8.out.size)); clear b9))
        go_ret
        exact ⟨rfl, B9.out⟩

theorem pathsKeep_any (d p : ByteArray) (w : World) : Calls Tryd.prog 4 #[.string d, .string p] w fun e w' => e = .returned (.bool true) ∧ Below w.heap.size w w' := by
  by_cases hd : 100 < d.size
  · have hd' : (100 : Int) < (d.size : Int) := by omega
    go_enter Tryd.func4, Tryd.ntmps4
    go_wp2_with (go_at_call 6; (with_reducible refine (awake_any _).mono ?_); rintro e w1 ⟨rfl, b1⟩)
    go_ret
    exact ⟨rfl, b1⟩
  · by_cases hp : 100 < p.size
    · have hd' : ¬ (100 : Int) < (d.size : Int) := by omega
      have hp' : (100 : Int) < (p.size : Int) := by omega
      go_enter Tryd.func4, Tryd.ntmps4
      go_wp2_with (go_at_call 6; (with_reducible refine (awake_any _).mono ?_); rintro e w1 ⟨rfl, b1⟩)
      go_ret
      exact ⟨rfl, b1⟩
    · cases hx : cleanL p.data.toList with
      | none => exact keep_none d p w (by omega) (by omega) hx
      | some x =>
        obtain ⟨a, rfl⟩ := as_text x
        cases hk : cleanL d.data.toList with
        | none => exact keep_nodir d p a w (by omega) (by omega) hx hk
        | some y =>
          obtain ⟨k, rfl⟩ := as_text y
          exact keep_both d p a k w (by omega) (by omega) hx hk

end Go.Proofs.YtikkfkchbdejkaaDoor
