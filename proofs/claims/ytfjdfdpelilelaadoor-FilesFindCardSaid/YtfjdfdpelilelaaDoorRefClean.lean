/-
  Clean: the text that a path stands for.
-/
import Derived.Test.YtfjdfdpelilelaaDoorRefStrs
import Derived.WalkSmall
namespace Go.Proofs.YtfjdfdpelilelaaDoor
open Go.RowKit

def sumLen (xs : List (List UInt8)) : Nat := (xs.map List.length).sum

theorem sumLen_append (a b : List (List UInt8)) : sumLen (a ++ b) = sumLen a + sumLen b := by simp [sumLen]

theorem sumLen_take (xs : List (List UInt8)) {k : Nat} {c : List UInt8} (h : xs[k]? = some c) : sumLen (xs.take (k + 1)) = sumLen (xs.take k) + c.length := by
  rw [List.take_add_one, h, sumLen_append]
  simp [sumLen]

theorem sumLen_le (xs : List (List UInt8)) (k : Nat) : sumLen (xs.take k) ≤ sumLen xs := by
  have h := sumLen_append (xs.take k) (xs.drop k)
  rw [List.take_append_drop] at h
  omega

theorem drop_cons' {l : List (List UInt8)} {k : Nat} {c : List UInt8} (hc : l[k]? = some c) : l.drop k = c :: l.drop (k + 1) := by
  rw [List.getElem?_eq_some_iff] at hc
  obtain ⟨h, rfl⟩ := hc
  exact List.drop_eq_getElem_cons h

theorem cleanGo_skip {out r : List (List UInt8)} {x : List UInt8} (h : x = [] ∨ x = [46]) : cleanGo out (x :: r) = cleanGo out r := by rw [cleanGo, if_pos h]

theorem cleanGo_up {out r : List (List UInt8)} {z : List UInt8} : cleanGo (out ++ [z]) ([46, 46] :: r) = cleanGo out r := by
  rw [cleanGo, if_neg (by simp), if_pos rfl, if_neg (by simp), List.dropLast_concat]

theorem cleanGo_top {r : List (List UInt8)} : cleanGo [] ([46, 46] :: r) = none := by
  rw [cleanGo, if_neg (by simp), if_pos rfl, if_pos rfl]

theorem cleanGo_more {out r : List (List UInt8)} {x : List UInt8} (h0 : x ≠ []) (h1 : x ≠ [46]) (h2 : x ≠ [46, 46]) : cleanGo out (x :: r) = cleanGo (out ++ [x]) r := by
  rw [cleanGo, if_neg (by simp [h0, h1]), if_neg h2]

theorem joinAux_snoc (s : List UInt8) (l : List (List UInt8)) (x : List UInt8) : joinAux s (l ++ [x]) = joinAux s l ++ (47 :: x) := by
  induction l generalizing s with
  | nil => rfl
  | cons a r ih => simp only [List.cons_append, joinAux]; exact ih _

theorem joinL_snoc {l : List (List UInt8)} (h : l ≠ []) (x : List UInt8) : joinL (l ++ [x]) = joinL l ++ [47] ++ x := by
  cases l with
  | nil => exact absurd rfl h
  | cons a r => simp only [List.cons_append, joinL, joinAux_snoc]; simp

theorem joinAux_len (s : List UInt8) (l : List (List UInt8)) : (joinAux s l).length = s.length + sumLen l + l.length := by
  induction l generalizing s with
  | nil => simp [joinAux, sumLen]
  | cons a r ih =>
    simp only [joinAux]
    rw [ih]
    simp [sumLen]
    omega

theorem joinL_len (l : List (List UInt8)) : (joinL l).length ≤ sumLen l + l.length := by
  cases l with
  | nil => simp [joinL]
  | cons a r =>
    simp only [joinL]
    rw [joinAux_len]
    simp [sumLen]

/-- What comes back: the text, and 1 where there is none. -/
def cleanS : Option (List UInt8) → ByteArray
  | none => ⟨#[]⟩
  | some r => ⟨r.toArray⟩
def cleanN : Option (List UInt8) → Int
  | none => 1
  | some _ => 0

theorem joinL_take {out : List (List UInt8)} {n : Nat} {z : List UInt8} (h : out[n]? = some z) : joinL (out.take (n + 1)) = if n = 0 then z else joinL (out.take n) ++ [47] ++ z := by
  have e : out.take (n + 1) = out.take n ++ [z] := by rw [List.take_add_one, h]; rfl
  have hl : n < out.length := (List.getElem?_eq_some_iff.1 h).1
  rw [e]
  by_cases h0 : n = 0
  · subst h0
    rw [if_pos rfl]
    simp [joinL, joinAux]
  · rw [if_neg h0, joinL_snoc]
    intro e1
    have := congrArg List.length e1
    rw [List.length_take, List.length_nil] at this
    omega

theorem size47 : (⟨#[47]⟩ : ByteArray).size = 1 := rfl

def JoinRel (out : List (List UInt8)) (st i : Value) : Prop :=
  ∃ (n : Nat) (S : ByteArray), i = .int .i64 (n : Int) ∧ n ≤ out.length ∧ st = .string S ∧ S.data.toList = joinL (out.take n)

def CleanRel (xs : List (List UInt8)) (W : World) (v i : Value) (wr : World) : Prop :=
  ∃ (k : Nat) (out : List (List UInt8)), i = .int .i64 (k : Int) ∧ k ≤ xs.length ∧ OwnStrs W.heap.size v out wr ∧ Below W.heap.size W wr ∧ out.length ≤ k ∧ sumLen out ≤ sumLen (xs.take k) ∧ cleanGo [] xs = cleanGo out (xs.drop k)

set_option maxHeartbeats 3200000 in
set_option maxRecDepth 100000 in
theorem clean_any (s : ByteArray) (w : World) (hs : s.size ≤ 400000) :
    Calls Tryd.prog 56 #[.string s] w fun e w' => e = .returned (.tuple #[.string (cleanS (cleanL s.data.toList)), .int .i64 (cleanN (cleanL s.data.toList))]) ∧ Below w.heap.size w w' := by
  have hnot : ∀ (x : Bool) (w : World), (Op.unary .not (.bool x)).run Tryd.prog w = .ok (.bool (!x)) w := fun _ _ => rfl
  obtain ⟨x, hx⟩ : ∃ x, cleanL s.data.toList = x := ⟨_, rfl⟩
  rw [hx]
  unfold cleanL partsL at hx
  have hlen := partsAux_len [] s.data.toList
  have hpos := partsAux_pos [] s.data.toList
  have hmem := partsAux_mem [] s.data.toList
  have hsum : sumLen (partsAux [] s.data.toList) ≤ s.data.toList.length := by have h := partsAux_size [] s.data.toList; simpa [sumLen] using h
  rw [psize] at hlen hmem hsum
  have HX := Lib.hid hx
  have HM := Lib.hid hmem
  clear hx hmem
  go_enter Tryd.func56, Tryd.ntmps56
  go_wp2_with fail
  refine (parts_any s _ (by omega)).mono ?_
  rintro e w1 ⟨v, rfl, hown, hbel⟩
  unfold partsL at hown
  generalize partsAux [] s.data.toList = xs at *
  obtain ⟨g, cap, rfl, hg, hc1, hc2, hcell⟩ := OwnStrs.form hown hpos
  have hgw : g < w1.heap.size := (World.ownsRow.lt hown g rfl).2
  have HB := Lib.hid hbel
  have HC := Lib.hid hcell
  clear hown hbel hcell
  unfold maxLen at hc2
  go_wp2
  go_loopw [5, 6] (CleanRel xs w1) (fun _ i _ => xs.length - (intOf i).toNat)
  case atStart => exact ⟨0, [], rfl, Nat.zero_le _, World.ownsRow_nil _ _ _ _, Below.refl _ _, Nat.le_refl _, Nat.le_refl _, rfl⟩
  case round =>
    obtain ⟨k, out, rfl, hk, hown, hbw, hol, hos, hgo⟩ := hrel
    have HO := Lib.hid hown
    have HW := Lib.hid hbw
    have HG := Lib.hid hgo
    have hszw := hbw.size
    clear hown hbw hgo
    by_cases hlt : k < xs.length
    · obtain ⟨c, hc⟩ : ∃ c, xs[k]? = some c := ⟨_, List.getElem?_eq_getElem hlt⟩
      have hcell : wr.cell? ⟨g, k, none⟩ = some (.string ⟨c.toArray⟩) := (HW.out.cell (p := ⟨g, k, none⟩) hgw).trans (HC.out k c hc)
      have hst := sumLen_take xs hc
      have hsl := sumLen_le xs (k + 1)
      have hdr := Lib.hid (drop_cons' hc)
      obtain ⟨b, hb⟩ : ∃ b : ByteArray, b = ⟨c.toArray⟩ := ⟨_, rfl⟩
      have hbc : c = b.data.toList := by rw [hb]
      rw [← hb] at hcell
      have hbl : b.toList = c := by rw [ByteArray.toList_eq, ← hbc]
      clear hb
      by_cases h0 : c = []
      · have e0 : (b.toList == []) = true := by rw [hbl, h0]; rfl
        have H0 := Lib.hid h0
        clear h0 hbl
        go_wp2
        go_roundw
        case rel => exact ⟨k + 1, out, by go_num, hlt, HO.out, HW.out, by omega, by omega, by rw [HG.out, hdr.out, cleanGo_skip (.inl H0.out)]⟩
        case measure => simp [intOf]; omega
      · have e0 : (b.toList == []) = false := by rw [hbl]; simpa using h0
        by_cases h1 : c = [46]
        · have e1 : (b.toList == [46]) = true := by rw [hbl, h1]; rfl
          have H1 := Lib.hid h1
          clear h0 h1 hbl
          go_wp2
          go_roundw
          case rel => exact ⟨k + 1, out, by go_num, hlt, HO.out, HW.out, by omega, by omega, by rw [HG.out, hdr.out, cleanGo_skip (.inr H1.out)]⟩
          case measure => simp [intOf]; omega
        · have e1 : (b.toList == [46]) = false := by rw [hbl]; simpa using h1
          by_cases h2 : c = [46, 46]
          · have e2 : (b.toList == [46, 46]) = true := by rw [hbl, h2]; rfl
            have H2 := Lib.hid h2
            clear h0 h1 h2 hbl
            rcases List.eq_nil_or_concat out with hn | ⟨o1, z, hn⟩
            · subst hn
              obtain ⟨a0, c0, rfl⟩ := OwnStrs.nil HO.out
              have HN := Lib.hid (show x = none by rw [← HX.out, HG.out, hdr.out, H2.out, cleanGo_top])
              go_wp2
              go_ret2
              exact ⟨by rw [HN.out]; rfl, HB.out.trans (HW.out.mono HB.out.size)⟩
            · rw [List.concat_eq_append] at hn
              subst hn
              rw [List.length_append, List.length_singleton] at hol
              rw [sumLen_append] at hos
              obtain ⟨g2, cp, rfl, hg2, hcp, hcm, -⟩ := OwnStrs.form HO.out (by simp)
              rw [List.length_append, List.length_singleton] at hcp
              unfold maxLen at hcm
              have hpop : OwnStrs w1.heap.size (.slice (some ⟨g2, 0, none⟩) o1.length cp) o1 wr := by
                have h := HO.out
                unfold OwnStrs at h
                rw [strs_append, List.length_append, List.length_singleton] at h
                exact ownsRow_pop (by rw [strs_length, Nat.mul_one]) h
              have HP := Lib.hid hpop
              clear hpop
              go_wp2
              go_roundw
              case rel => exact ⟨k + 1, o1, by go_num, hlt, HP.out, HW.out, by omega, by omega, by rw [HG.out, hdr.out, H2.out, cleanGo_up]⟩
              case measure => simp [intOf]; omega
          · have e2 : (b.toList == [46, 46]) = false := by rw [hbl]; simpa using h2
            have HN := Lib.hid (show cleanGo [] xs = cleanGo (out ++ [c]) (xs.drop (k + 1)) by rw [HG.out, hdr.out, cleanGo_more h0 h1 h2])
            rw [hbc] at HN
            have hsb : sumLen (out ++ [b.data.toList]) ≤ sumLen (xs.take (k + 1)) := by rw [sumLen_append, hst, hbc]; simp [sumLen] at hos ⊢; omega
            have HS := Lib.hid hsb
            clear hsb
            clear h0 h1 h2 hbl
            go_wp2
            have hck : w1.cell? ⟨g, k, none⟩ = some (.string b) := by rw [← HW.out.cell (p := ⟨g, k, none⟩) hgw]; exact hcell
            have hol2 : out.length ≤ 2000000 := by omega
            have BW := Lib.hid (show BB w1.heap.size w1 wr from ⟨HW.out, hszw⟩)
            go_region_held3 (fun w' => w'.cell? ⟨g, k, none⟩ = some (.string b))
              (first | go_keep)
              (first
                | (refine step_spread rfl (.tmp 21) (.tmp 22) rfl w1.heap.size w1 (.slice (some ⟨wr.heap.size, 0, none⟩) 0 0) _ out ?_ rfl ?_ ?_ hol2 ?_ ?_
                   · rfl
                   · (repeat first | (with_reducible apply OwnStrs.drew) | (with_reducible exact OwnStrs.alloc (own_empty1 hszw))); done
                   · (repeat first | (with_reducible apply OwnStrs.drew) | (with_reducible apply OwnStrs.alloc)); exact HO.out
                   · (repeat first | (with_reducible apply BB.drew) | (with_reducible apply BB.alloc)); (with_reducible exact BW.out)
                   intro v1 w2 own1 grow1 bb1
                   have HCC : Hid (w2.cell? ⟨wr.heap.size + 1, 0, none⟩ = some (.string b)) := ?_
                   rotate_left
                   · refine Lib.hid (grow1.cell ?_ ?_)
                     · (repeat (with_reducible apply cell_drew)); (with_reducible exact one_cell2)
                     · simp [Value.ownBlock]
                   have hk1 := bb1.cell hgw hck
                   have hg1 : g < w2.heap.size := Nat.lt_of_lt_of_le hgw bb1.2
                   have OW := Lib.hid own1
                   have BB1 := Lib.hid bb1
                   clear own1 bb1 grow1)
                | (refine step_spread rfl (.tmp 21) (.tmp 22) rfl w1.heap.size w1 (.slice (some ⟨wr.heap.size + 1, 0, none⟩) 0 0) _ out ?_ rfl ?_ ?_ hol2 ?_ ?_
                   · rfl
                   · (repeat first | (with_reducible apply OwnStrs.drew) | (with_reducible exact own_empty2 hszw)); done
                   · (repeat first | (with_reducible apply OwnStrs.drew) | (with_reducible apply OwnStrs.alloc)); exact HO.out
                   · (repeat first | (with_reducible apply BB.drew) | (with_reducible apply BB.alloc)); (with_reducible exact BW.out)
                   intro v1 w2 own1 grow1 bb1
                   have HCC : Hid (w2.cell? ⟨wr.heap.size, 0, none⟩ = some (.string b)) := ?_
                   rotate_left
                   · refine Lib.hid (grow1.cell ?_ ?_)
                     · (repeat (with_reducible apply cell_drew)); (with_reducible exact one_cell1)
                     · simp [Value.ownBlock]
                   have hk1 := bb1.cell hgw hck
                   have hg1 : g < w2.heap.size := Nat.lt_of_lt_of_le hgw bb1.2
                   have OW := Lib.hid own1
                   have BB1 := Lib.hid bb1
                   clear own1 bb1 grow1)
                | (refine step_spread rfl (.tmp 21) (.tmp 22) rfl w1.heap.size w1 (.slice (some ⟨wr.heap.size, 0, none⟩) 0 0) _ out ?_ rfl ?_ ?_ hol2 ?_ ?_
                   · rfl
                   · (repeat first | (with_reducible apply OwnStrs.drew) | (with_reducible exact own_empty1 hszw)); done
                   · (repeat first | (with_reducible apply OwnStrs.drew) | (with_reducible apply OwnStrs.alloc)); exact HO.out
                   · (repeat first | (with_reducible apply BB.drew) | (with_reducible apply BB.alloc)); (with_reducible exact BW.out)
                   intro v1 w2 own1 grow1 bb1
                   have hk1 := bb1.cell hgw hck
                   have hg1 : g < w2.heap.size := Nat.lt_of_lt_of_le hgw bb1.2
                   have OW := Lib.hid own1
                   have BB1 := Lib.hid bb1
                   clear own1 bb1 grow1)
                | (refine step_one rfl (.tmp 23) (.tmp 28) rfl w1.heap.size w1 v1 out b (wr.heap.size + 1) ?_ ?_ ?_ ?_ hol2 ?_ ?_
                   · rfl
                   · rfl
                   · (repeat first | (with_reducible apply OwnStrs.drew) | (with_reducible apply OwnStrs.alloc)); (with_reducible exact OW.out)
                   · (repeat (with_reducible apply cell_drew)); (with_reducible exact HCC.out)
                   · (repeat first | (with_reducible apply BB.drew) | (with_reducible apply BB.alloc)); (with_reducible exact BB1.out)
                   intro v2 w3 own2 grow2 bb2
                   have hk2 := bb2.cell hgw hck
                   have OW2 := Lib.hid own2
                   have BB2 := Lib.hid bb2
                   clear own2 bb2)
                | (refine step_one rfl (.tmp 23) (.tmp 28) rfl w1.heap.size w1 v1 out b (wr.heap.size) ?_ ?_ ?_ ?_ hol2 ?_ ?_
                   · rfl
                   · rfl
                   · (repeat first | (with_reducible apply OwnStrs.drew) | (with_reducible apply OwnStrs.alloc)); (with_reducible exact OW.out)
                   · (repeat (with_reducible apply cell_drew)); (with_reducible exact HCC.out)
                   · (repeat first | (with_reducible apply BB.drew) | (with_reducible apply BB.alloc)); (with_reducible exact BB1.out)
                   intro v2 w3 own2 grow2 bb2
                   have hk2 := bb2.cell hgw hck
                   have OW2 := Lib.hid own2
                   have BB2 := Lib.hid bb2
                   clear own2 bb2)
                | (refine step_one rfl (.tmp 23) (.tmp 28) rfl w1.heap.size w1 v1 out b (w2.heap.size) ?_ ?_ ?_ ?_ hol2 ?_ ?_
                   · rfl
                   · rfl
                   · (repeat first | (with_reducible apply OwnStrs.drew) | (with_reducible apply OwnStrs.alloc)); (with_reducible exact OW.out)
                   · (repeat (with_reducible apply cell_drew)); (with_reducible exact one_cell)
                   · (repeat first | (with_reducible apply BB.drew) | (with_reducible apply BB.alloc)); (with_reducible exact BB1.out)
                   intro v2 w3 own2 grow2 bb2
                   have hk2 := bb2.cell hgw hck
                   have OW2 := Lib.hid own2
                   have BB2 := Lib.hid bb2
                   clear own2 bb2))
            all_goals go_wp2
            all_goals go_roundw
            all_goals first
              | exact ⟨k + 1, out ++ [b.data.toList], by go_num, hlt, OW2.out, BB2.out.1, by simp; omega, HS.out, HN.out⟩
              | (simp [intOf]; omega)
    · have hke : k = xs.length := by omega
      have hX : (if validB (joinL out) = true then some (joinL out) else none) = x := by
        rw [← HX.out, HG.out, hke, List.drop_length]
        rfl
      have hbound : sumLen out ≤ s.size := Nat.le_trans hos (Nat.le_trans (sumLen_le xs k) hsum)
      have HX2 := Lib.hid hX
      clear hX HG
      have hfin : ∀ (S : ByteArray), S.data.toList = joinL out → S.size ≤ 1000000 := by
        intro S hS
        rw [← psize, hS]
        have := joinL_len out
        omega
      have HF := Lib.hid hfin
      clear hfin
      have hge : ¬ ((k : Int) < (xs.length : Int)) := by omega
      rcases Nat.eq_zero_or_pos out.length with hz | hz
      · have : out = [] := List.eq_nil_of_length_eq_zero hz
        subst this
        obtain ⟨a0, c0, rfl⟩ := OwnStrs.nil HO.out
        go_wp2
        go_loop [7, 8] (fun st i => st = .string ⟨#[]⟩ ∧ i = .int .i64 0) (fun _ _ => 0)
        case atStart => exact ⟨rfl, rfl⟩
        case round =>
          obtain ⟨rfl, rfl⟩ := hrel
          have hv := valid_any ⟨#[]⟩ wr
          have hval : validB (joinL []) = false := rfl
          rw [show (⟨#[]⟩ : ByteArray).data.toList = joinL [] from rfl, hval] at hv
          have HV := Lib.hid hv
          have HE := Lib.hid (show x = none from by rw [← HX2.out, hval]; rfl)
          clear hval hv
          go_wp2_with (go_at_call 24; refine HV.out.mono ?_; rintro e w2 ⟨rfl, hb2⟩)
          go_ret2
          exact ⟨by rw [HE.out]; rfl, (HB.out.trans (HW.out.mono HB.out.size)).trans (hb2.mono (Nat.le_trans HB.out.size hszw))⟩
      · obtain ⟨g2, cp, rfl, hg2, hcp, hcm, hcells⟩ := OwnStrs.form HO.out hz
        unfold maxLen at hcm
        have HC2 := Lib.hid hcells
        clear hcells
        go_wp2
        go_loop [7, 8] (JoinRel out) (fun _ i => out.length - (intOf i).toNat)
        case atStart => exact ⟨0, ⟨#[]⟩, rfl, Nat.zero_le _, rfl, rfl⟩
        case round =>
          obtain ⟨n, S, rfl, hn, rfl, hS⟩ := hrel
          have hSl : S.size ≤ 1000000 := by
            rw [← psize, hS]
            have h1 := joinL_len (out.take n)
            have h2 := sumLen_le out n
            rw [List.length_take] at h1
            omega
          have HS := Lib.hid hS
          clear hS
          by_cases hnl : n < out.length
          · obtain ⟨z, hzz⟩ : ∃ z, out[n]? = some z := ⟨_, List.getElem?_eq_getElem hnl⟩
            have hcz := HC2.out n z hzz
            have hzl : z.length ≤ sumLen out := by
              have h1 := sumLen_take out hzz
              have h2 := sumLen_le out (n + 1)
              omega
            have hjn := joinL_take hzz
            obtain ⟨b, hb⟩ : ∃ b : ByteArray, b = ⟨z.toArray⟩ := ⟨_, rfl⟩
            have hbz : z = b.data.toList := by rw [hb]
            rw [← hb] at hcz
            rw [hbz] at hjn
            rw [hbz, psize] at hzl
            have HJ := Lib.hid hjn
            clear hjn hb hbz hzz
            rcases Nat.eq_zero_or_pos n with h0 | h0
            · subst h0
              have hcat := catFits (a := S) (b := b) (by omega)
              go_wp2
              go_round
              case rel =>
                refine ⟨1, S ++ b, by go_num, hnl, rfl, ?_⟩
                rw [cat_list, HS.out, HJ.out, if_pos rfl]
                simp [joinL]
              case measure => simp [intOf]; omega
            · have hcat1 := catFits (a := S) (b := ⟨#[47]⟩) (by rw [size47]; omega)
              have hcat2 := catFits (a := S ++ ⟨#[47]⟩) (b := b) (by rw [ByteArray.size_append, size47]; omega)
              have hn0 : (0 : Int) < (n : Int) := by omega
              go_wp2
              go_round
              case rel =>
                refine ⟨n + 1, S ++ ⟨#[47]⟩ ++ b, by go_num, hnl, rfl, ?_⟩
                rw [cat_list, cat_list, HS.out, HJ.out, if_neg (by omega)]
              case measure => simp [intOf]; omega
          · have hne : n = out.length := by omega
            rw [hne, List.take_length] at HS
            have hge2 : ¬ ((n : Int) < (out.length : Int)) := by omega
            have hv := valid_any S wr
            rw [HS.out] at hv
            have hbs := bytes_of HS.out
            have HBS := Lib.hid hbs
            clear hbs
            cases hval : validB (joinL out) with
            | true =>
              rw [hval] at hv
              have HV := Lib.hid hv
              have HE := Lib.hid (show x = some (joinL out) from by rw [← HX2.out, hval]; rfl)
              clear hval hv
              go_wp2_with (go_at_call 24; refine HV.out.mono ?_; rintro e w2 ⟨rfl, hb2⟩)
              go_ret2
              exact ⟨by rw [HE.out, HBS.out]; rfl, (HB.out.trans (HW.out.mono HB.out.size)).trans (hb2.mono (Nat.le_trans HB.out.size hszw))⟩
            | false =>
              rw [hval] at hv
              have HV := Lib.hid hv
              have HE := Lib.hid (show x = none from by rw [← HX2.out, hval]; rfl)
              clear hval hv
              go_wp2_with (go_at_call 24; refine HV.out.mono ?_; rintro e w2 ⟨rfl, hb2⟩)
              go_ret2
              exact ⟨by rw [HE.out]; rfl, (HB.out.trans (HW.out.mono HB.out.size)).trans (hb2.mono (Nat.le_trans HB.out.size hszw))⟩

end Go.Proofs.YtfjdfdpelilelaaDoor
