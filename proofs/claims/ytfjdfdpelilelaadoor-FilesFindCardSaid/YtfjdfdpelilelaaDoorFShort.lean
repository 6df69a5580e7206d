/-
  Short: are texts few, and short in all? MayDirs: may these be directories?
-/
import Derived.Test.YtfjdfdpelilelaaDoorFNew
namespace Go.Proofs.YtfjdfdpelilelaaDoor
open Go.RowKit

def shortB (xs : List (List UInt8)) (most : Nat) : Bool := decide (xs.length ≤ most) && decide (sumLen xs ≤ most)

theorem sumLen_mem {xs : List (List UInt8)} {x : List UInt8} (h : x ∈ xs) : x.length ≤ sumLen xs := by
  induction xs with
  | nil => cases h
  | cons a r ih =>
    simp only [sumLen, List.map_cons, List.sum_cons] at ih ⊢
    rcases List.mem_cons.1 h with rfl | h
    · omega
    · have := ih h
      omega

theorem ret_bool {a b : Bool} (h : a = b) : Ending.returned (.bool a) = .returned (.bool b) := by rw [h]

def ShortRel (xs : List (List UInt8)) (most : Nat) (n i : Value) : Prop :=
  ∃ k : Nat, i = .int .i64 (k : Int) ∧ n = .int .i64 (sumLen (xs.take k) : Int) ∧ k ≤ xs.length ∧ k ≤ most + 1 ∧ sumLen (xs.take k) ≤ k * most

theorem sum_take {xs : List (List UInt8)} {k : Nat} {x : List UInt8} (h : xs[k]? = some x) : sumLen (xs.take (k + 1)) = sumLen (xs.take k) + x.length := by
  rw [List.take_add_one, h]
  simp [sumLen]

set_option maxHeartbeats 1600000 in
set_option maxRecDepth 100000 in
theorem short_any {a : Option Addr} {cap : Nat} (xs : List (List UInt8)) (w : World) (hS : StrsAt a xs w) (most : Nat) (hm : most ≤ 1000) (hlen : xs.length ≤ 9223372036854775807) (hb : ∀ x ∈ xs, x.length ≤ 9223372036854775807) :
    Calls Tryd.prog 7 #[.slice a xs.length cap, .int .i64 (most : Int)] w fun e w' => e = .returned (.bool (shortB xs most)) ∧ w = w' := by
  have HS := Lib.hid hS
  have HBD := Lib.hid hb
  clear hS hb
  go_enter Tryd.func7, Tryd.ntmps7
  go_wp2
  go_loop [5, 6] (ShortRel xs most) (fun _ i => xs.length - (intOf i).toNat)
  case atStart => exact ⟨0, rfl, rfl, Nat.zero_le _, Nat.zero_le _, Nat.zero_le _⟩
  case round =>
    obtain ⟨k, rfl, rfl, hk, hkm, hsum⟩ := hrel
    have hsb : k * most ≤ 1001 * 1000 := Nat.mul_le_mul (by omega) hm
    by_cases hlt : k < xs.length
    · by_cases hle : k ≤ most
      · obtain ⟨x, hx⟩ : ∃ x, xs[k]? = some x := ⟨_, List.getElem?_eq_getElem hlt⟩
        obtain ⟨ad, had, -, hcell⟩ := HS.out k x hx
        subst had
        have hxl := HBD.out x (List.mem_of_getElem? hx)
        have hst := sum_take hx
        obtain ⟨b, hb⟩ : ∃ b : ByteArray, (⟨x.toArray⟩ : ByteArray) = b := ⟨_, rfl⟩
        rw [hb] at hcell
        have hbx : b.size = x.length := by rw [← hb]; exact List.size_toArray
        generalize hs0 : sumLen (xs.take k) = s0 at *
        have hs1 : s0 ≤ 1001000 := by omega
        by_cases hxm : x.length ≤ most
        · have hbm : ¬ ((most : Int) < (b.size : Int)) := by omega
          have HST := Lib.hid hst
          have HSUM := Lib.hid hsum
          have HBX := Lib.hid hbx
          have hb2 : b.size ≤ 1000 := by omega
          clear hst hsum hbx hs0 hsb hb hx
          go_wp2
          go_round
          case rel =>
            refine ⟨k + 1, by go_num, ?_, hlt, by omega, ?_⟩
            · rw [HST.out]
              have := HBX.out
              go_num
            · rw [HST.out, Nat.add_mul, Nat.one_mul]
              have := HSUM.out
              omega
          case measure => simp [intOf]; omega
        · have hbm : (most : Int) < (b.size : Int) := by omega
          have hno : shortB xs most = false := by
            unfold shortB
            rw [Bool.and_eq_false_iff]
            right
            have := sumLen_mem (List.mem_of_getElem? hx)
            simp only [decide_eq_false_iff_not]
            omega
          have HN := Lib.hid hno
          clear hno hst hsum hbx hs0 hsb hb hx
          go_wp2
          go_ret
          exact ⟨ret_bool HN.out.symm, rfl⟩
      · have hle2 : ¬ ((k : Int) ≤ (most : Int)) := by omega
        have hno : shortB xs most = false := by
          unfold shortB
          rw [Bool.and_eq_false_iff]
          left
          simp only [decide_eq_false_iff_not]
          omega
        have hno2 : ¬ ((xs.length : Int) ≤ (most : Int)) := by omega
        have HN := Lib.hid hno
        generalize sumLen (xs.take k) = s0 at *
        clear hno hsum
        go_wp2
        go_ret
        exact ⟨ret_bool HN.out.symm, rfl⟩
    · obtain rfl : k = xs.length := by omega
      have htk : xs.take xs.length = xs := List.take_length
      rw [htk] at hsum ⊢
      have hge : ¬ ((xs.length : Int) < (xs.length : Int)) := by omega
      by_cases h1 : xs.length ≤ most
      · have h1i : (xs.length : Int) ≤ (most : Int) := by omega
        have hno : shortB xs most = decide (sumLen xs ≤ most) := by
          unfold shortB
          rw [decide_eq_true h1, Bool.true_and]
        have HN := Lib.hid hno
        generalize hs0 : sumLen xs = s0 at *
        have HN2 : Hid (shortB xs most = decide ((s0 : Int) ≤ (most : Int))) := Lib.hid (by rw [HN.out]; exact decide_eq_decide.2 (by omega))
        clear hno hsum htk hs0 HN
        by_cases h2 : s0 ≤ most
        · have h2i : (s0 : Int) ≤ (most : Int) := by omega
          go_wp2
          go_ret
          exact ⟨ret_bool (HN2.out.trans (decide_eq_true h2i)).symm, rfl⟩
        · have h2i : ¬ ((s0 : Int) ≤ (most : Int)) := by omega
          go_wp2
          go_ret
          exact ⟨ret_bool (HN2.out.trans (decide_eq_false (by omega))).symm, rfl⟩
      · have h1i : ¬ ((xs.length : Int) ≤ (most : Int)) := by omega
        have hno : shortB xs most = false := by
          unfold shortB
          rw [decide_eq_false h1, Bool.false_and]
        have HN := Lib.hid hno
        generalize hs0 : sumLen xs = s0 at *
        clear hno hsum htk hs0
        go_wp2
        go_ret
        exact ⟨ret_bool HN.out.symm, rfl⟩


def mayB (xs : List (List UInt8)) : Bool := decide (xs.length ≤ 10) && dirsB xs

def MayRel (w : World) (xs : List (List UInt8)) (i : Value) (wr : World) : Prop :=
  ∃ k : Nat, i = .int .i64 (k : Int) ∧ k ≤ xs.length ∧ Below w.heap.size w wr ∧ ∀ x ∈ xs.take k, x = [] ∨ validB x = true

theorem may_false {xs : List (List UInt8)} {x : List UInt8} (hx : x ∈ xs) (h1 : x ≠ []) (h2 : validB x = false) : mayB xs = false := by
  unfold mayB dirsB
  rw [Bool.and_eq_false_iff]
  right
  rw [List.all_eq_false]
  exact ⟨x, hx, by simp [h1, h2]⟩

theorem may_true {xs : List (List UInt8)} (hl : xs.length ≤ 10) (h : ∀ x ∈ xs, x = [] ∨ validB x = true) : mayB xs = true := by
  unfold mayB dirsB
  rw [Bool.and_eq_true]
  refine ⟨decide_eq_true hl, ?_⟩
  rw [List.all_eq_true]
  intro x hx
  rcases h x hx with h | h
  · simp [h]
  · simp [h]

set_option maxHeartbeats 1600000 in
set_option maxRecDepth 100000 in
theorem may_any {a : Option Addr} {cap : Nat} (xs : List (List UInt8)) (w : World) (hS : StrsAt a xs w) (hlen : xs.length ≤ 9223372036854775807) :
    Calls Tryd.prog 8 #[.slice a xs.length cap] w fun e w' => e = .returned (.bool (mayB xs)) ∧ Below w.heap.size w w' := by
  have hnot := not_run
  have HS := Lib.hid hS
  clear hS
  by_cases h10 : 10 < xs.length
  · have h10i : (10 : Int) < (xs.length : Int) := by omega
    have HM : Hid (mayB xs = false) := Lib.hid (by unfold mayB; rw [decide_eq_false (by omega), Bool.false_and])
    go_enter Tryd.func8, Tryd.ntmps8
    go_wp2
    go_ret
    exact ⟨ret_bool HM.out.symm, Below.refl _ _⟩
  · have h10i : ¬ ((10 : Int) < (xs.length : Int)) := by omega
    go_enter Tryd.func8, Tryd.ntmps8
    go_wp2
    go_loopw [3] (MayRel w xs) (fun i _ => xs.length - (intOf i).toNat)
    case atStart => exact ⟨0, rfl, Nat.zero_le _, Below.refl _ _, fun x h => by simp at h⟩
    case round =>
      obtain ⟨k, rfl, hk, hb, hok⟩ := hrel
      have HB := Lib.hid hb
      have HOK := Lib.hid hok
      clear hb hok
      by_cases hlt : k < xs.length
      · obtain ⟨x, hx⟩ : ∃ x, xs[k]? = some x := ⟨_, List.getElem?_eq_getElem hlt⟩
        obtain ⟨ad, had, hadl, hcell0⟩ := HS.out k x hx
        subst had
        have hcell := (HB.out.cell (p := ad.add k) (by rw [add_block]; exact hadl)).trans hcell0
        obtain ⟨b, hb⟩ : ∃ b : ByteArray, (⟨x.toArray⟩ : ByteArray) = b := ⟨_, rfl⟩
        rw [hb] at hcell
        have hbx : b.data.toList = x := by rw [← hb]
        have htk : xs.take (k + 1) = xs.take k ++ [x] := by rw [List.take_add_one, hx]; rfl
        have HT := Lib.hid htk
        have HX := Lib.hid (List.mem_of_getElem? hx)
        clear hcell0 hb htk hx
        by_cases he : b.toList = []
        · have hx0 : x = [] := by rw [← hbx, ← ByteArray.toList_eq]; exact he
          have HX0 := Lib.hid hx0
          clear hx0
          go_wp2
          go_roundw
          case rel =>
            refine ⟨k + 1, by go_num, hlt, HB.out, fun y hy => ?_⟩
            rw [HT.out] at hy
            rcases List.mem_append.1 hy with h | h
            · exact HOK.out y h
            · simp only [List.mem_cons, List.not_mem_nil, or_false] at h
              exact .inl (h.trans HX0.out)
          case measure => simp [intOf]; omega
        · have hne2 : b.toList.isEmpty = false := by
            rw [List.isEmpty_eq_false_iff]
            exact he
          have HV := Lib.hid (fun X => valid_any b X)
          rw [hbx] at HV
          have HX0 : Hid (x ≠ []) := Lib.hid (fun h => he (by rw [ByteArray.toList_eq, hbx, h]))
          cases hv : validB x with
          | true =>
            rw [hv] at HV
            have HVX := Lib.hid hv
            clear hv
            go_wp2_with (go_at_call 24; refine (HV.out _).mono ?_; rintro e w2 ⟨rfl, b2⟩; have B2 := Lib.hid (HB.out.trans (b2.mono HB.out.size)); clear b2)
            go_roundw
            case rel =>
              refine ⟨k + 1, by go_num, hlt, B2.out, fun y hy => ?_⟩
              rw [HT.out] at hy
              rcases List.mem_append.1 hy with h | h
              · exact HOK.out y h
              · simp only [List.mem_cons, List.not_mem_nil, or_false] at h
                exact .inr (h ▸ HVX.out)
            case measure => simp [intOf]; omega
          | false =>
            rw [hv] at HV
            have HM := Lib.hid (may_false HX.out HX0.out hv)
            clear hv
            go_wp2_with (go_at_call 24; refine (HV.out _).mono ?_; rintro e w2 ⟨rfl, b2⟩; have B2 := Lib.hid (HB.out.trans (b2.mono HB.out.size)); clear b2)
            go_ret
            exact ⟨ret_bool HM.out.symm, B2.out⟩
      · have hge : ¬ ((k : Int) < (xs.length : Int)) := by omega
        have HM : Hid (mayB xs = true) := Lib.hid (may_true (by omega) fun x hx => HOK.out x (by rw [List.take_of_length_le (by omega)]; exact hx))
        go_wp2
        go_ret
        exact ⟨ret_bool HM.out.symm, HB.out⟩

end Go.Proofs.YtfjdfdpelilelaaDoor
