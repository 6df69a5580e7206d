/-
  Contracts of package paths.
-/
import Derived.Test.YtfjdfdpelilelaaDoorMeant
import Derived.Test.YtfjdfdpelilelaaDoorRefJoin
import Derived.Test.YtfjdfdpelilelaaDoorRefDir
import Derived.Test.YtfjdfdpelilelaaDoorPathFacts
namespace Go.Proofs.YtfjdfdpelilelaaDoor
open Go.RowKit

set_option maxHeartbeats 1600000 in
theorem cleanp_any (s : ByteArray) (w : World) (hs : s.size ≤ 2000) :
    Calls Tryd.prog 73 #[.string s] w fun e w' => e = .returned (.tuple #[.string (cleanS (cleanL s.data.toList)), .int .i64 (cleanN (cleanL s.data.toList))]) ∧ Below w.heap.size w w' := by
  have HM := Lib.hid (fun W => meant_any s W (by omega))
  obtain ⟨x, hx⟩ : ∃ x, cleanL s.data.toList = x := ⟨_, rfl⟩
  rw [hx]
  unfold cleanL at hx
  generalize cleanGo [] (partsL s.data.toList) = r at *
  have HX := Lib.hid hx
  clear hx
  go_enter Tryd.func73, Tryd.ntmps73
  go_wp2_with fail
  refine (HM.out _).mono ?_
  rintro e w1 ⟨hb, h⟩
  have HB := Lib.hid hb
  clear hb
  rcases h with ⟨rfl, rfl⟩ | ⟨out, v, rfl, rfl, hown, hsum, hn⟩
  · have HE := Lib.hid (show x = none from HX.out.symm)
    clear HX
    go_wp2
    go_ret2
    exact ⟨by rw [HE.out]; rfl, HB.out⟩
  · have hjl := joinL_len out
    have hX : (if validB (joinL out) then some (joinL out) else none) = x := HX.out
    have HJ := Lib.hid (fun W (h : OwnStrs w.heap.size v out W) => joins_any w.heap.size v out W h (by omega) (by omega))
    have HO := Lib.hid hown
    clear hown HX HM
    obtain ⟨S, hS⟩ : ∃ S : ByteArray, S = ⟨(joinL out).toArray⟩ := ⟨_, rfl⟩
    have hSd : S.data.toList = joinL out := by rw [hS]
    have hSl : S.size ≤ 1000000 := by rw [← psize, hSd]; omega
    rw [← hS] at HJ
    have HV := Lib.hid (fun W => validp_any S W hSl)
    rw [hSd] at HV
    have HK := Lib.hid (fun W => strClone_any S W hSl)
    have HS := Lib.hid hS
    clear hS hSd
    cases hv : validB (joinL out) with
    | true =>
      rw [hv] at HV hX
      have HE := Lib.hid (show x = some (joinL out) from hX.symm)
      clear hv hX
      go_wp2_with (first
        | (go_at_call 97; refine (HJ.out _ HO.out).mono ?_; rintro e w2 ⟨rfl, b2⟩; have B2 := Lib.hid (HB.out.trans (b2.mono HB.out.size)); clear b2)
        | (go_at_call 25; refine (HV.out _).mono ?_; rintro e w3 ⟨rfl, b3⟩; have B3 := Lib.hid (B2.out.trans (b3.mono B2.out.size)); clear b3)
        | (go_at_call 26; refine (HK.out _).mono ?_; rintro e w4 ⟨rfl, b4⟩; have B4 := Lib.hid (B3.out.trans (b4.mono B3.out.size)); clear b4))
      go_ret2
      exact ⟨by rw [HE.out, HS.out]; rfl, B4.out⟩
    | false =>
      rw [hv] at HV hX
      have HE := Lib.hid (show x = none from hX.symm)
      clear hv hX
      go_wp2_with (first
        | (go_at_call 97; refine (HJ.out _ HO.out).mono ?_; rintro e w2 ⟨rfl, b2⟩; have B2 := Lib.hid (HB.out.trans (b2.mono HB.out.size)); clear b2)
        | (go_at_call 25; refine (HV.out _).mono ?_; rintro e w3 ⟨rfl, b3⟩; have B3 := Lib.hid (B2.out.trans (b3.mono B2.out.size)); clear b3))
      go_ret2
      exact ⟨by rw [HE.out]; rfl, B3.out⟩

theorem pClean_any (s : ByteArray) (w : World) (hs : s.size ≤ 1000) :
    Calls Tryd.prog 73 #[.string s] w fun e w' => e = .returned (.tuple #[.string (cleanS (cleanL s.data.toList)), .int .i64 (cleanN (cleanL s.data.toList))]) ∧ Below w.heap.size w w' := cleanp_any s w (by omega)

theorem pValid_any (s : ByteArray) (w : World) (hs : s.size ≤ 1000) :
    Calls Tryd.prog 25 #[.string s] w fun e w' => e = .returned (.bool (validB s.data.toList)) ∧ Below w.heap.size w w' := validp_any s w (by omega)

set_option maxHeartbeats 1600000 in
theorem pJoin_any (d p : ByteArray) (w : World) (hs : d.size + p.size ≤ 1000) :
    Calls Tryd.prog 54 #[.string d, .string p] w fun e w' => e = .returned (.tuple #[.string (cleanS (joinPath d.data.toList p.data.toList)), .int .i64 (cleanN (joinPath d.data.toList p.data.toList))]) ∧ Below w.heap.size w w' := by
  have hP := fun W => Tryd.strings_HasPrefix p ⟨#[47]⟩ W
  rw [show (⟨#[47]⟩ : ByteArray).data.toList = [47] from rfl, hasPrefix_slash] at hP
  by_cases h : p.data.toList[0]? = some 47
  · rw [decide_eq_true h] at hP
    have HC := Lib.hid (fun W => cleanp_any p W (by omega))
    unfold joinPath
    rw [if_pos h]
    generalize cleanL p.data.toList = x at *
    have HP := Lib.hid hP
    clear hP h
    go_enter Tryd.func54, Tryd.ntmps54
    go_wp2_with (first
      | (go_at_call 72; refine (HP.out _).mono ?_; rintro e w1 ⟨rfl, rfl⟩)
      | (go_at_call 73; refine (HC.out _).mono ?_; rintro e w2 ⟨rfl, b2⟩))
    go_ret2
    exact ⟨rfl, b2⟩
  · rw [decide_eq_false h] at hP
    have hj : joinPath d.data.toList p.data.toList = cleanL (d ++ ⟨#[47]⟩ ++ p).data.toList := by
      unfold joinPath
      rw [if_neg h, cat_list, cat_list]
      simp
    rw [hj]
    have hsz : (d ++ ⟨#[47]⟩ ++ p).size ≤ 2000 := by
      rw [ByteArray.size_append, ByteArray.size_append, size47]
      omega
    have HC := Lib.hid (fun W => cleanp_any (d ++ ⟨#[47]⟩ ++ p) W hsz)
    generalize cleanL (d ++ ⟨#[47]⟩ ++ p).data.toList = x at *
    have hcat1 := catFits (a := d) (b := ⟨#[47]⟩) (by rw [size47]; omega)
    have hcat2 := catFits (a := d ++ ⟨#[47]⟩) (b := p) (by rw [ByteArray.size_append, size47]; omega)
    have HP := Lib.hid hP
    clear hP h hj hsz
    go_enter Tryd.func54, Tryd.ntmps54
    go_wp2_with (first
      | (go_at_call 72; refine (HP.out _).mono ?_; rintro e w1 ⟨rfl, rfl⟩)
      | (go_at_call 73; refine (HC.out _).mono ?_; rintro e w2 ⟨rfl, b2⟩))
    go_ret2
    exact ⟨rfl, b2⟩

theorem take_extract (s : ByteArray) (n : Nat) : s.extract 0 n = ⟨(s.data.toList.take n).toArray⟩ := by
  rw [extract_cut]
  simp [cutL]

set_option maxHeartbeats 1600000 in
theorem pDir_any (s : ByteArray) (w : World) (hs : s.size ≤ 1000) :
    Calls Tryd.prog 34 #[.string s] w fun e w' => e = .returned (.string ⟨(dirL s.data.toList).toArray⟩) ∧ Below w.heap.size w w' := by
  rw [dir_last]
  have hL := fun W => Tryd.strings_LastIndexByte s 47 (by omega) W
  rcases Go.Lib.lastIndexByte_spec s 47 with ⟨h, -⟩ | ⟨i, hi, h, -⟩
  · rw [h] at hL ⊢
    have HL := Lib.hid hL
    have hmx : max (-1 : Int) 0 = 0 := by decide
    have HC := Lib.hid (fun W => strClone_any ⟨#[]⟩ W (by decide))
    clear hL h
    go_enter Tryd.func34, Tryd.ntmps34
    go_wp2_with (first
      | (go_at_call 55; refine (HL.out _).mono ?_; rintro e w1 ⟨rfl, rfl⟩)
      | (go_at_call 26; refine (HC.out _).mono ?_; rintro e w2 ⟨rfl, b2⟩))
    go_ret
    exact ⟨rfl, b2⟩
  · rw [h] at hL ⊢
    have hmx : max (i : Int) 0 = (i : Int) := by omega
    rw [hmx, Int.toNat_natCast, ← take_extract]
    have hsz : (s.extract 0 i).size ≤ 1000000 := by rw [ByteArray.size_extract]; omega
    have HL := Lib.hid hL
    have HC := Lib.hid (fun W => strClone_any (s.extract 0 i) W hsz)
    clear hL h hsz
    go_enter Tryd.func34, Tryd.ntmps34
    go_wp2_with (first
      | (go_at_call 55; refine (HL.out _).mono ?_; rintro e w1 ⟨rfl, rfl⟩)
      | (go_at_call 26; refine (HC.out _).mono ?_; rintro e w2 ⟨rfl, b2⟩))
    go_ret
    exact ⟨rfl, b2⟩

end Go.Proofs.YtfjdfdpelilelaaDoor
