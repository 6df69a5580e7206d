/-
  meant: the parts that are left.
-/
import Derived.Test.YtfjdfdpelilelaaDoorPValid
namespace Go.Proofs.YtfjdfdpelilelaaDoor
open Go.RowKit

def MeantPost (s : ByteArray) (r : Option (List (List UInt8))) (w : World) (e : Ending) (w' : World) : Prop :=
  Below w.heap.size w w' ∧ ((r = none ∧ e = .returned (.tuple #[.slice none 0 0, .bool false])) ∨
    (∃ out v, r = some out ∧ e = .returned (.tuple #[v, .bool true]) ∧ OwnStrs w.heap.size v out w' ∧ sumLen out ≤ s.size ∧ out.length ≤ s.size + 1))

theorem OwnStrs.base {B C : Nat} {v : Value} {xs : List (List UInt8)} {w : World} (h : OwnStrs B v xs w) (hC : C ≤ B) : OwnStrs C v xs w := by
  obtain ⟨h1, h2 | ⟨g, cap, cur, e, hg, hr⟩⟩ := h
  · exact ⟨h1, .inl h2⟩
  · exact ⟨h1, .inr ⟨g, cap, cur, e, Nat.le_trans hC hg, hr⟩⟩

set_option maxHeartbeats 3200000 in
set_option maxRecDepth 100000 in
theorem meant_any (s : ByteArray) (w : World) (hs : s.size ≤ 400000) :
    Calls Tryd.prog 96 #[.string s] w (MeantPost s (cleanGo [] (partsL s.data.toList)) w) := by
  obtain ⟨i0, hi, hz0, hz1, hz2⟩ := info_parts Tryd.infoStr
  obtain ⟨x, hx⟩ : ∃ x, cleanGo [] (partsL s.data.toList) = x := ⟨_, rfl⟩
  rw [hx]
  have hlen := partsAux_len [] s.data.toList
  have hpos := partsAux_pos [] s.data.toList
  have hmem := partsAux_mem [] s.data.toList
  have hsum : sumLen (partsAux [] s.data.toList) ≤ s.data.toList.length := by have h := partsAux_size [] s.data.toList; simpa [sumLen] using h
  rw [psize] at hlen hmem hsum
  have HX := Lib.hid hx
  have HM := Lib.hid hmem
  have HS := Lib.hid (fun W => split_any s W (by omega))
  clear hx hmem
  unfold partsL at HX HS
  generalize partsAux [] s.data.toList = xs at *
  go_enter Tryd.func96, Tryd.ntmps96
  go_wp2_with fail
  refine (HS.out _).mono ?_
  rintro e w1 ⟨rfl, hw1⟩
  have HC := Lib.hid (cell_strs hw1 rfl)
  have hBs := below_strs hw1
  have hgw : w.heap.size < w1.heap.size := hBs.2
  have HB := Lib.hid hBs.1
  clear hw1 hBs
  obtain ⟨g, hg⟩ : ∃ g, w.heap.size = g := ⟨_, rfl⟩
  rw [hg] at HC hgw
  simp only [hg]
  have HG := Lib.hid hg
  clear hg
  go_wp2
  go_loopw [4, 10] (CleanRel xs w1) (fun _ i _ => xs.length - (intOf i).toNat)
  case atStart => exact ⟨0, [], rfl, Nat.zero_le _, World.ownsRow_nil _ _ _ _, Below.refl _ _, Nat.le_refl _, Nat.le_refl _, rfl⟩
  case round =>
    obtain ⟨k, out, rfl, hk, hown, hbw, hol, hos, hgo⟩ := hrel
    have hszw := hbw.size
    have HO := Lib.hid hown
    have HW := Lib.hid hbw
    have HGO := Lib.hid hgo
    clear hown hbw hgo
    by_cases hlt : k < xs.length
    · obtain ⟨c, hc⟩ : ∃ c, xs[k]? = some c := ⟨_, List.getElem?_eq_getElem hlt⟩
      have hcell : wr.cell? ⟨g, k, none⟩ = some (.string ⟨c.toArray⟩) := (HW.out.cell (p := ⟨g, k, none⟩) hgw).trans (HC.out k c hc)
      have hst := sumLen_take xs hc
      have hsl := sumLen_le xs (k + 1)
      have hdr := Lib.hid (drop_cons' hc)
      obtain ⟨b, hb⟩ : ∃ b : ByteArray, b = ⟨c.toArray⟩ := ⟨_, rfl⟩
      have hbc : c = b.data.toList := by rw [hb]
      rw [← hb] at hcell
      have hbl : b.toList = c := by rw [ByteArray.toList_eq, ← hbc]
      clear hb
      by_cases h0 : c = []
      · have e0 : (b.toList == []) = true := by rw [hbl, h0]; rfl
        have H0 := Lib.hid h0
        clear h0 hbl hbc
        go_wp2
        go_roundw
        case rel => exact ⟨k + 1, out, by go_num, hlt, HO.out, HW.out, by omega, by omega, by rw [HGO.out, hdr.out, cleanGo_skip (.inl H0.out)]⟩
        case measure => simp [intOf]; omega
      · have e0 : (b.toList == []) = false := by rw [hbl]; simpa using h0
        by_cases h1 : c = [46]
        · have e1 : (b.toList == [46]) = true := by rw [hbl, h1]; rfl
          have H1 := Lib.hid h1
          clear h0 h1 hbl hbc
          go_wp2
          go_roundw
          case rel => exact ⟨k + 1, out, by go_num, hlt, HO.out, HW.out, by omega, by omega, by rw [HGO.out, hdr.out, cleanGo_skip (.inr H1.out)]⟩
          case measure => simp [intOf]; omega
        · have e1 : (b.toList == [46]) = false := by rw [hbl]; simpa using h1
          by_cases h2 : c = [46, 46]
          · have e2 : (b.toList == [46, 46]) = true := by rw [hbl, h2]; rfl
            have H2 := Lib.hid h2
            clear h0 h1 h2 hbl hbc
            rcases List.eq_nil_or_concat out with hn | ⟨o1, z, hn⟩
            · subst hn
              obtain ⟨a0, c0, rfl⟩ := OwnStrs.nil HO.out
              have HN := Lib.hid (show x = none by rw [← HX.out, HGO.out, hdr.out, H2.out, cleanGo_top])
              go_wp2
              go_ret2
              exact ⟨HB.out.trans (HW.out.mono HB.out.size), .inl ⟨HN.out, rfl⟩⟩
            · rw [List.concat_eq_append] at hn
              subst hn
              rw [List.length_append, List.length_singleton] at hol
              rw [sumLen_append] at hos
              obtain ⟨g2, cp, rfl, hg2, hcp, hcm, -⟩ := OwnStrs.form HO.out (by simp)
              rw [List.length_append, List.length_singleton] at hcp
              unfold maxLen at hcm
              have hpop : OwnStrs w1.heap.size (.slice (some ⟨g2, 0, none⟩) o1.length cp) o1 wr := by
                have h := HO.out
                unfold OwnStrs at h
                rw [strs_append, List.length_append, List.length_singleton] at h
                exact ownsRow_pop (by rw [strs_length, Nat.mul_one]) h
              have HP := Lib.hid hpop
              clear hpop
              go_wp2
              go_roundw
              case rel => exact ⟨k + 1, o1, by go_num, hlt, HP.out, HW.out, by omega, by omega, by rw [HGO.out, hdr.out, H2.out, cleanGo_up]⟩
              case measure => simp [intOf]; omega
          · have e2 : (b.toList == [46, 46]) = false := by rw [hbl]; simpa using h2
            have HN := Lib.hid (show cleanGo [] xs = cleanGo (out ++ [c]) (xs.drop (k + 1)) by rw [HGO.out, hdr.out, cleanGo_more h0 h1 h2])
            rw [hbc] at HN
            have hsb : sumLen (out ++ [b.data.toList]) ≤ sumLen (xs.take (k + 1)) := by rw [sumLen_append, hst, hbc]; simp [sumLen] at hos ⊢; omega
            have HSB := Lib.hid hsb
            clear hsb h0 h1 h2 hbl hbc
            go_wp2_with (at_builtin; refine wpList_append_own _ rfl _ _ 22 rfl w1.heap.size 9 i0 (.string ⟨#[]⟩) 1 16 Tryd.underlying22 hi hz0 hz1 hz2 rfl (by decide) _ _ _ rfl (OwnStrs.alloc HO.out) ⟨wr.heap.size, 0, none⟩ 1 1 [.string b] rfl rfl ?c1 ?c2 ?c3 ?c4 ?c5 ?_)
            case c1 =>
              intro j u hj
              match j, hj with
              | 0, hj => simp at hj; subst hj; simp [Addr.add]
            case c2 => intro u hu; simp at hu; subst hu; rfl
            case c3 => unfold maxLen; omega
            case c4 => omega
            case c5 => simp; omega
            intro v' w2 hown' hgrow _
            have hbel1 : Below w1.heap.size w1 w2 := (HW.out.alloc hszw _).grown hgrow (by simp; omega) (fun g hg => (World.ownsRow.lt HO.out g hg).1)
            have HO' := Lib.hid (own_put (x := b.data.toList) hown')
            have HB' := Lib.hid hbel1
            clear hown' hgrow hbel1
            go_wp2
            go_roundw
            case rel => exact ⟨k + 1, out ++ [b.data.toList], by go_num, hlt, HO'.out, HB'.out, by simp; omega, HSB.out, HN.out⟩
            case measure => simp [intOf]; omega
    · have hke : k = xs.length := by omega
      have hX : x = some out := by
        rw [← HX.out, HGO.out, hke, List.drop_length]
        rfl
      have hbound : sumLen out ≤ s.size := Nat.le_trans hos (Nat.le_trans (sumLen_le xs k) hsum)
      have HX2 := Lib.hid hX
      clear hX HGO
      have hge : ¬ ((k : Int) < (xs.length : Int)) := by omega
      go_wp2
      go_ret2
      exact ⟨HB.out.trans (HW.out.mono HB.out.size), .inr ⟨out, _, HX2.out, rfl, HO.out.base HB.out.size, hbound, by omega⟩⟩

end Go.Proofs.YtfjdfdpelilelaaDoor
