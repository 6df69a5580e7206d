/-
  turnLeft, turnRight, level: two trees as one.
-/
import Derived.Test.YtfjdfdpelilelaaDoorBranch
import Derived.Deep.RegionHeld3
import Derived.Deep.RegionWith
import Derived.BigQuiet
import Derived.Deep.QuietTactic
namespace Go.Proofs.YtfjdfdpelilelaaDoor
open Go.RowKit

/-- A tree of that text has been made. -/
def TreeMade (B : Nat) (M : Mp) (w : World) (x : List UInt8) (e : Ending) (w' : World) : Prop :=
  ∃ t b M', e = .returned (.pointer (some ⟨b, 0, none⟩)) ∧ t.text = x ∧ M' b = some t ∧ St B M w M' w'

theorem Made.one {B : Nat} {M : Mp} {w w' : World} {t : T} {e : Ending} (h : Made B M w (some t) e w') : ∃ b M', e = .returned (.pointer (some ⟨b, 0, none⟩)) ∧ M' b = some t ∧ St B M w M' w' := by
  obtain ⟨M', p, he, hp, hs⟩ := h
  rcases hp with ⟨_, h⟩ | ⟨b, u, rfl, hu, hb⟩
  · cases h
  · cases hu
    exact ⟨b, M', he, hb, hs⟩

set_option maxHeartbeats 1600000 in
theorem turnLeft_any {B : Nat} {M : Mp} {w : World} (h : Inv B [] M w) {ba bb : Nat} {a l r : T} (ha : M ba = some a) (hb : M bb = some (.node l r)) (hs : a.size + (l.size + r.size) ≤ lim) :
    Calls Tryd.prog 118 #[.pointer (some ⟨ba, 0, none⟩), .pointer (some ⟨bb, 0, none⟩)] w (TreeMade B M w (a.text ++ (l.text ++ r.text))) := by
  obtain ⟨bl, br, ml, mr, c0, c1, -, -⟩ := h.nodeCells hb
  obtain ⟨_, _, -, -, -, -, -, dl⟩ := h.cells ml
  obtain ⟨_, _, -, -, -, -, -, dr⟩ := h.cells mr
  have hbb := h.lt hb
  have hbl := h.lt ml
  by_cases hd : r.depth < l.depth
  · cases l with
    | leaf s => have := r.depth_pos; simp only [T.depth] at hd; omega
    | node x y =>
      obtain ⟨bx, bz, mx, my, x0, x1, -, -⟩ := h.nodeCells ml
      simp only [T.size] at hs
      unfold lim at hs
      have H := Lib.hid h
      have HA := Lib.hid ha
      have MR := Lib.hid mr
      have MX := Lib.hid mx
      have MY := Lib.hid my
      clear h ha hb ml mr mx my
      go_enter Tryd.func118, Tryd.ntmps118
      go_wp2
      go_quiet (fail)
      go_wp2
      go_region_held3 (fun w' => w'.cell? ⟨bb, 0, none⟩ = some (.pointer (some ⟨bl, 0, none⟩)) ∧ w'.cell? ⟨bb, 1, none⟩ = some (.pointer (some ⟨br, 0, none⟩)) ∧ w'.cell? ⟨bl, 0, none⟩ = some (.pointer (some ⟨bx, 0, none⟩)) ∧ w'.cell? ⟨bl, 1, none⟩ = some (.pointer (some ⟨bz, 0, none⟩)))
        (first | go_keep)
        (first
          | (go_at_call_of 70 (Value.pointer (some ⟨bx, 0, none⟩)); refine (branch_any (B := B) ?_ HA.out MX.out (by unfold lim; omega)).mono ?_; exact H.out.ali rfl; rintro e w1 q; obtain ⟨b1, M1, rfl, m1, s1⟩ := q.one; have S1 := Lib.hid (show St B M w M1 w1 from s1.ali rfl rfl rfl rfl); have P1 := Lib.hid m1; have e0 := (S1.out.fr.low bb 0 hbb (by omega)).trans c0; have e1 := (S1.out.fr.low bb 1 hbb (by omega)).trans c1; have e2 := (S1.out.fr.low bl 0 hbl (by omega)).trans x0; have e3 := (S1.out.fr.low bl 1 hbl (by omega)).trans x1; clear q m1 s1)
          | (go_at_call_of 70 (Value.pointer (some ⟨bz, 0, none⟩)); refine (branch_any S1.out.inv (S1.out.keep H.out MY.out) (S1.out.keep H.out MR.out) (by unfold lim; omega)).mono ?_; rintro e w2 q; obtain ⟨b2, M2, rfl, m2, s2⟩ := q.one; have S2 := Lib.hid s2; have P2 := Lib.hid m2; have S12 := Lib.hid (S1.out.trans s2); have f0 := (S12.out.fr.low bb 0 hbb (by omega)).trans c0; have f1 := (S12.out.fr.low bb 1 hbb (by omega)).trans c1; have f2 := (S12.out.fr.low bl 0 hbl (by omega)).trans x0; have f3 := (S12.out.fr.low bl 1 hbl (by omega)).trans x1; clear q m2 s2)
          | (go_at_call_of 70 (Value.pointer (some ⟨b2, 0, none⟩)); refine (branch_any S2.out.inv (S2.out.keep S1.out.inv P1.out) P2.out (by simp only [T.size]; unfold lim; omega)).mono ?_; rintro e w3 q; obtain ⟨b3, M3, rfl, m3, s3⟩ := q.one; have S3 := Lib.hid (S12.out.trans s3); have P3 := Lib.hid m3; have g0 := (S3.out.fr.low bb 0 hbb (by omega)).trans c0; have g1 := (S3.out.fr.low bb 1 hbb (by omega)).trans c1; have g2 := (S3.out.fr.low bl 0 hbl (by omega)).trans x0; have g3 := (S3.out.fr.low bl 1 hbl (by omega)).trans x1; clear q m3 s3))
      all_goals go_wp2
      all_goals go_ret
      all_goals exact ⟨_, b3, M3, rfl, by simp [T.text], P3.out, S3.out⟩
  · unfold lim at hs
    have H := Lib.hid h
    have HA := Lib.hid ha
    have MR := Lib.hid mr
    have ML := Lib.hid ml
    clear h ha hb ml mr
    go_enter Tryd.func118, Tryd.ntmps118
    go_wp2
    go_quiet (fail)
    go_wp2
    go_region_held3 (fun w' => w'.cell? ⟨bb, 0, none⟩ = some (.pointer (some ⟨bl, 0, none⟩)) ∧ w'.cell? ⟨bb, 1, none⟩ = some (.pointer (some ⟨br, 0, none⟩)))
      (first | go_keep)
      (first
        | (go_at_call_of 70 (Value.pointer (some ⟨bl, 0, none⟩)); refine (branch_any (B := B) ?_ HA.out ML.out (by unfold lim; omega)).mono ?_; exact H.out.ali rfl; rintro e w1 q; obtain ⟨b1, M1, rfl, m1, s1⟩ := q.one; have S1 := Lib.hid (show St B M w M1 w1 from s1.ali rfl rfl rfl rfl); have P1 := Lib.hid m1; have e0 := (S1.out.fr.low bb 0 hbb (by omega)).trans c0; have e1 := (S1.out.fr.low bb 1 hbb (by omega)).trans c1; clear q m1 s1)
        | (go_at_call_of 70 (Value.pointer (some ⟨br, 0, none⟩)); refine (branch_any S1.out.inv P1.out (S1.out.keep H.out MR.out) (by simp only [T.size]; unfold lim; omega)).mono ?_; rintro e w2 q; obtain ⟨b2, M2, rfl, m2, s2⟩ := q.one; have S2 := Lib.hid (S1.out.trans s2); have P2 := Lib.hid m2; have f0 := (S2.out.fr.low bb 0 hbb (by omega)).trans c0; have f1 := (S2.out.fr.low bb 1 hbb (by omega)).trans c1; clear q m2 s2))
    all_goals go_wp2
    all_goals go_ret
    all_goals exact ⟨_, b2, M2, rfl, by simp [T.text], P2.out, S2.out⟩

set_option maxHeartbeats 1600000 in
theorem turnRight_any {B : Nat} {M : Mp} {w : World} (h : Inv B [] M w) {ba bb : Nat} {a l r : T} (ha : M ba = some (.node l r)) (hb : M bb = some a) (hs : (l.size + r.size) + a.size ≤ lim) :
    Calls Tryd.prog 119 #[.pointer (some ⟨ba, 0, none⟩), .pointer (some ⟨bb, 0, none⟩)] w (TreeMade B M w ((l.text ++ r.text) ++ a.text)) := by
  obtain ⟨bl, br, ml, mr, c0, c1, -, -⟩ := h.nodeCells ha
  obtain ⟨_, _, -, -, -, -, -, dl⟩ := h.cells ml
  obtain ⟨_, _, -, -, -, -, -, dr⟩ := h.cells mr
  have hba := h.lt ha
  have hbr := h.lt mr
  by_cases hd : l.depth < r.depth
  · cases r with
    | leaf s => have := l.depth_pos; simp only [T.depth] at hd; omega
    | node x y =>
      obtain ⟨bx, bz, mx, my, x0, x1, -, -⟩ := h.nodeCells mr
      simp only [T.size] at hs
      unfold lim at hs
      have H := Lib.hid h
      have HB := Lib.hid hb
      have ML := Lib.hid ml
      have MX := Lib.hid mx
      have MY := Lib.hid my
      clear h ha hb ml mr mx my
      go_enter Tryd.func119, Tryd.ntmps119
      go_wp2
      go_quiet (fail)
      go_wp2
      go_region_held3 (fun w' => w'.cell? ⟨ba, 0, none⟩ = some (.pointer (some ⟨bl, 0, none⟩)) ∧ w'.cell? ⟨ba, 1, none⟩ = some (.pointer (some ⟨br, 0, none⟩)) ∧ w'.cell? ⟨br, 0, none⟩ = some (.pointer (some ⟨bx, 0, none⟩)) ∧ w'.cell? ⟨br, 1, none⟩ = some (.pointer (some ⟨bz, 0, none⟩)))
        (first | go_keep)
        (first
          | (go_at_call_of 70 (Value.pointer (some ⟨bx, 0, none⟩)); refine (branch_any (B := B) ?_ ML.out MX.out (by unfold lim; omega)).mono ?_; exact H.out.ali rfl; rintro e w1 q; obtain ⟨b1, M1, rfl, m1, s1⟩ := q.one; have S1 := Lib.hid (show St B M w M1 w1 from s1.ali rfl rfl rfl rfl); have P1 := Lib.hid m1; have e0 := (S1.out.fr.low ba 0 hba (by omega)).trans c0; have e1 := (S1.out.fr.low ba 1 hba (by omega)).trans c1; have e2 := (S1.out.fr.low br 0 hbr (by omega)).trans x0; have e3 := (S1.out.fr.low br 1 hbr (by omega)).trans x1; clear q m1 s1)
          | (go_at_call_of 70 (Value.pointer (some ⟨bz, 0, none⟩)); refine (branch_any S1.out.inv (S1.out.keep H.out MY.out) (S1.out.keep H.out HB.out) (by unfold lim; omega)).mono ?_; rintro e w2 q; obtain ⟨b2, M2, rfl, m2, s2⟩ := q.one; have S2 := Lib.hid s2; have P2 := Lib.hid m2; have S12 := Lib.hid (S1.out.trans s2); have f0 := (S12.out.fr.low ba 0 hba (by omega)).trans c0; have f1 := (S12.out.fr.low ba 1 hba (by omega)).trans c1; have f2 := (S12.out.fr.low br 0 hbr (by omega)).trans x0; have f3 := (S12.out.fr.low br 1 hbr (by omega)).trans x1; clear q m2 s2)
          | (go_at_call_of 70 (Value.pointer (some ⟨b2, 0, none⟩)); refine (branch_any S2.out.inv (S2.out.keep S1.out.inv P1.out) P2.out (by simp only [T.size]; unfold lim; omega)).mono ?_; rintro e w3 q; obtain ⟨b3, M3, rfl, m3, s3⟩ := q.one; have S3 := Lib.hid (S12.out.trans s3); have P3 := Lib.hid m3; have g0 := (S3.out.fr.low ba 0 hba (by omega)).trans c0; have g1 := (S3.out.fr.low ba 1 hba (by omega)).trans c1; have g2 := (S3.out.fr.low br 0 hbr (by omega)).trans x0; have g3 := (S3.out.fr.low br 1 hbr (by omega)).trans x1; clear q m3 s3))
      all_goals go_wp2
      all_goals go_ret
      all_goals exact ⟨_, b3, M3, rfl, by simp [T.text], P3.out, S3.out⟩
  · unfold lim at hs
    have H := Lib.hid h
    have HB := Lib.hid hb
    have MR := Lib.hid mr
    have ML := Lib.hid ml
    clear h ha hb ml mr
    go_enter Tryd.func119, Tryd.ntmps119
    go_wp2
    go_quiet (fail)
    go_wp2
    go_region_held3 (fun w' => w'.cell? ⟨ba, 0, none⟩ = some (.pointer (some ⟨bl, 0, none⟩)) ∧ w'.cell? ⟨ba, 1, none⟩ = some (.pointer (some ⟨br, 0, none⟩)))
      (first | go_keep)
      (first
        | (go_at_call_of 70 (Value.pointer (some ⟨br, 0, none⟩)); refine (branch_any (B := B) ?_ MR.out HB.out (by unfold lim; omega)).mono ?_; exact H.out.ali rfl; rintro e w1 q; obtain ⟨b1, M1, rfl, m1, s1⟩ := q.one; have S1 := Lib.hid (show St B M w M1 w1 from s1.ali rfl rfl rfl rfl); have P1 := Lib.hid m1; have e0 := (S1.out.fr.low ba 0 hba (by omega)).trans c0; have e1 := (S1.out.fr.low ba 1 hba (by omega)).trans c1; clear q m1 s1)
        | (go_at_call_of 70 (Value.pointer (some ⟨bl, 0, none⟩)); refine (branch_any S1.out.inv (S1.out.keep H.out ML.out) P1.out (by simp only [T.size]; unfold lim; omega)).mono ?_; rintro e w2 q; obtain ⟨b2, M2, rfl, m2, s2⟩ := q.one; have S2 := Lib.hid (S1.out.trans s2); have P2 := Lib.hid m2; have f0 := (S2.out.fr.low ba 0 hba (by omega)).trans c0; have f1 := (S2.out.fr.low ba 1 hba (by omega)).trans c1; clear q m2 s2))
    all_goals go_wp2
    all_goals go_ret
    all_goals exact ⟨_, b2, M2, rfl, by simp [T.text], P2.out, S2.out⟩

set_option maxHeartbeats 1600000 in
theorem level_any {B : Nat} {M : Mp} {w : World} (h : Inv B [] M w) {ba bb : Nat} {a b : T} (ha : M ba = some a) (hb : M bb = some b) (hs : a.size + b.size ≤ lim) :
    Calls Tryd.prog 112 #[.pointer (some ⟨ba, 0, none⟩), .pointer (some ⟨bb, 0, none⟩)] w (TreeMade B M w (a.text ++ b.text)) := by
  obtain ⟨_, _, -, -, -, -, -, da⟩ := h.cells ha
  obtain ⟨_, _, -, -, -, -, -, db⟩ := h.cells hb
  have fa := a.depth_le (h.full ba a ha).1
  have fb := b.depth_le (h.full bb b hb).1
  have hs' := hs
  unfold lim at hs'
  have pa := a.depth_pos
  have pb := b.depth_pos
  have H := Lib.hid h
  have HA := Lib.hid ha
  have HB := Lib.hid hb
  have HS := Lib.hid hs
  clear h ha hb hs
  by_cases h1 : a.depth + 1 < b.depth
  · have hw : ((a.depth : Int) + 1 < (b.depth : Int)) := by omega
    cases b with
    | leaf s => simp only [T.depth] at h1; omega
    | node l r =>
      have HT := Lib.hid (show a.size + (l.size + r.size) ≤ lim from HS.out)
      go_enter Tryd.func112, Tryd.ntmps112
      go_wp2
      go_quiet (fail)
      go_wp2_with (go_at_call 118; refine (turnLeft_any (B := B) ?_ HA.out HB.out HT.out).mono ?_; exact H.out.ali rfl; rintro e w1 ⟨t, b1, M1, rfl, ht, m1, s1⟩; have HH := Lib.hid ht; have S1 := Lib.hid (show St B M w M1 w1 from s1.ali rfl rfl rfl rfl); have P1 := Lib.hid m1; clear ht s1 m1)
      go_ret
      exact ⟨t, b1, M1, rfl, HH.out, P1.out, S1.out⟩
  · have hw1 : ¬ ((a.depth : Int) + 1 < (b.depth : Int)) := by omega
    by_cases h2 : b.depth + 1 < a.depth
    · have hw2 : ((b.depth : Int) + 1 < (a.depth : Int)) := by omega
      cases a with
      | leaf s => simp only [T.depth] at h2; omega
      | node l r =>
        have HT := Lib.hid (show (l.size + r.size) + b.size ≤ lim from HS.out)
        go_enter Tryd.func112, Tryd.ntmps112
        go_wp2
        go_quiet (fail)
        go_wp2
        go_quiet (fail)
        go_wp2_with (go_at_call 119; refine (turnRight_any (B := B) ?_ HA.out HB.out HT.out).mono ?_; exact H.out.ali rfl; rintro e w1 ⟨t, b1, M1, rfl, ht, m1, s1⟩; have HH := Lib.hid ht; have S1 := Lib.hid (show St B M w M1 w1 from s1.ali rfl rfl rfl rfl); have P1 := Lib.hid m1; clear ht s1 m1)
        go_ret
        exact ⟨t, b1, M1, rfl, HH.out, P1.out, S1.out⟩
    · have hw2 : ¬ ((b.depth : Int) + 1 < (a.depth : Int)) := by omega
      go_enter Tryd.func112, Tryd.ntmps112
      go_wp2
      go_quiet (fail)
      go_wp2
      go_quiet (fail)
      go_wp2_with (go_at_call 70; refine (branch_any (B := B) ?_ HA.out HB.out HS.out).mono ?_; exact H.out.ali rfl; rintro e w1 q; obtain ⟨b1, M1, rfl, m1, s1⟩ := q.one; have S1 := Lib.hid (show St B M w M1 w1 from s1.ali rfl rfl rfl rfl); have P1 := Lib.hid m1; clear q m1 s1)
      go_ret
      exact ⟨_, b1, M1, rfl, rfl, P1.out, S1.out⟩

end Go.Proofs.YtfjdfdpelilelaaDoor
