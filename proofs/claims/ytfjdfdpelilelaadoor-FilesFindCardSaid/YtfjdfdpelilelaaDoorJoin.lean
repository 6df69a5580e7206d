/-
  join: two trees of any depths as one.
-/
import Derived.Test.YtfjdfdpelilelaaDoorTurn
namespace Go.Proofs.YtfjdfdpelilelaaDoor
open Go.RowKit

set_option maxHeartbeats 3200000 in
theorem join_some {B : Nat} : ∀ (n : Nat) (a b : T), a.nn + b.nn < n → ∀ (M : Mp) (w : World), Inv B [] M w → ∀ (ba bb : Nat), M ba = some a → M bb = some b → a.size + b.size ≤ lim →
    Calls Tryd.prog 104 #[.pointer (some ⟨ba, 0, none⟩), .pointer (some ⟨bb, 0, none⟩)] w (TreeMade B M w (a.text ++ b.text)) := by
  intro n
  induction n with
  | zero => intro a b hn; omega
  | succ n ih =>
  intro a b hn M w h ba bb ha hb hs
  obtain ⟨_, _, -, -, -, -, -, da⟩ := h.cells ha
  obtain ⟨_, _, -, -, -, -, -, db⟩ := h.cells hb
  have fa := a.depth_le (h.full ba a ha).1
  have fb := b.depth_le (h.full bb b hb).1
  have hs' := hs
  unfold lim at hs'
  have hba := h.lt ha
  have hbb := h.lt hb
  have hda : a.depth ≤ 1000000 := by omega
  have hdb : b.depth ≤ 1000000 := by omega
  have pa := a.depth_pos
  have pb := b.depth_pos
  have H := Lib.hid h
  have HA := Lib.hid ha
  have HB := Lib.hid hb
  have HS := Lib.hid hs
  have IH := Lib.hid ih
  by_cases h1 : b.depth + 1 < a.depth
  · have hw : ((b.depth : Int) + 1 < (a.depth : Int)) := by omega
    cases a with
    | leaf s => simp only [T.depth] at h1; omega
    | node l r =>
      obtain ⟨bl, br, ml, mr, c0, c1, -, -⟩ := h.nodeCells ha
      have ML := Lib.hid ml
      have MR := Lib.hid mr
      simp only [T.nn] at hn
      simp only [T.size] at hs'
      clear h ha hb hs ih ml mr
      go_enter Tryd.func104, Tryd.ntmps104
      go_wp2
      go_quiet (fail)
      go_wp2
      go_region_held3 (fun w' => w'.cell? ⟨ba, 0, none⟩ = some (.pointer (some ⟨bl, 0, none⟩)) ∧ w'.cell? ⟨ba, 1, none⟩ = some (.pointer (some ⟨br, 0, none⟩)))
        (first | go_keep)
        (first
          | (go_at_call 104; refine (IH.out r b (by omega) M _ ?_ br bb MR.out HB.out (by unfold lim; omega)).mono ?_; exact H.out.ali rfl; rintro e w1 ⟨t1, b1, M1, rfl, ht1, m1, s1⟩; have HT1 := Lib.hid ht1; have S1 := Lib.hid (show St B M w M1 w1 from s1.ali rfl rfl rfl rfl); have P1 := Lib.hid m1; have e0 := (S1.out.fr.low ba 0 hba (by omega)).trans c0; have e1 := (S1.out.fr.low ba 1 hba (by omega)).trans c1; clear ht1 m1 s1)
          | (go_at_call 112; refine (level_any S1.out.inv (S1.out.keep H.out ML.out) P1.out (by rw [T.size_eq t1, HT1.out, List.length_append, ← T.size_eq, ← T.size_eq]; unfold lim; omega)).mono ?_; rintro e w2 ⟨t2, b2, M2, rfl, ht2, m2, s2⟩; have HT2 := Lib.hid ht2; have S2 := Lib.hid (S1.out.trans s2); have P2 := Lib.hid m2; have f0 := (S2.out.fr.low ba 0 hba (by omega)).trans c0; have f1 := (S2.out.fr.low ba 1 hba (by omega)).trans c1; clear ht2 m2 s2))
      all_goals go_wp2
      all_goals go_ret
      all_goals exact ⟨t2, b2, M2, rfl, by rw [HT2.out, HT1.out]; simp [T.text], P2.out, S2.out⟩
  · have hw1 : ¬ ((b.depth : Int) + 1 < (a.depth : Int)) := by omega
    by_cases h2 : a.depth + 1 < b.depth
    · have hw2 : ((a.depth : Int) + 1 < (b.depth : Int)) := by omega
      cases b with
      | leaf s => simp only [T.depth] at h2; omega
      | node l r =>
        obtain ⟨bl, br, ml, mr, c0, c1, -, -⟩ := h.nodeCells hb
        have ML := Lib.hid ml
        have MR := Lib.hid mr
        simp only [T.nn] at hn
        simp only [T.size] at hs'
        clear h ha hb hs ih ml mr
        go_enter Tryd.func104, Tryd.ntmps104
        go_wp2
        go_quiet (fail)
        go_wp2
        go_quiet (fail)
        go_wp2
        go_region_held3 (fun w' => w'.cell? ⟨bb, 0, none⟩ = some (.pointer (some ⟨bl, 0, none⟩)) ∧ w'.cell? ⟨bb, 1, none⟩ = some (.pointer (some ⟨br, 0, none⟩)))
          (first | go_keep)
          (first
            | (go_at_call 104; refine (IH.out a l (by omega) M _ ?_ ba bl HA.out ML.out (by unfold lim; omega)).mono ?_; exact H.out.ali rfl; rintro e w1 ⟨t1, b1, M1, rfl, ht1, m1, s1⟩; have HT1 := Lib.hid ht1; have S1 := Lib.hid (show St B M w M1 w1 from s1.ali rfl rfl rfl rfl); have P1 := Lib.hid m1; have e0 := (S1.out.fr.low bb 0 hbb (by omega)).trans c0; have e1 := (S1.out.fr.low bb 1 hbb (by omega)).trans c1; clear ht1 m1 s1)
            | (go_at_call 112; refine (level_any S1.out.inv P1.out (S1.out.keep H.out MR.out) (by rw [T.size_eq t1, HT1.out, List.length_append, ← T.size_eq, ← T.size_eq]; unfold lim; omega)).mono ?_; rintro e w2 ⟨t2, b2, M2, rfl, ht2, m2, s2⟩; have HT2 := Lib.hid ht2; have S2 := Lib.hid (S1.out.trans s2); have P2 := Lib.hid m2; have f0 := (S2.out.fr.low bb 0 hbb (by omega)).trans c0; have f1 := (S2.out.fr.low bb 1 hbb (by omega)).trans c1; clear ht2 m2 s2))
        all_goals go_wp2
        all_goals go_ret
        all_goals exact ⟨t2, b2, M2, rfl, by rw [HT2.out, HT1.out]; simp [T.text], P2.out, S2.out⟩
    · have hw2 : ¬ ((a.depth : Int) + 1 < (b.depth : Int)) := by omega
      clear h ha hb hs ih
      go_enter Tryd.func104, Tryd.ntmps104
      go_wp2
      go_quiet (fail)
      go_wp2
      go_quiet (fail)
      go_wp2_with (go_at_call 70; refine (branch_any (B := B) ?_ HA.out HB.out HS.out).mono ?_; exact H.out.ali rfl; rintro e w1 q; obtain ⟨b1, M1, rfl, m1, s1⟩ := q.one; have S1 := Lib.hid (show St B M w M1 w1 from s1.ali rfl rfl rfl rfl); have P1 := Lib.hid m1; clear q m1 s1)
      go_ret
      exact ⟨_, b1, M1, rfl, rfl, P1.out, S1.out⟩

/-- A tree of that text, or none where the text is empty. -/
def TextMade (B : Nat) (M : Mp) (w : World) (x : List UInt8) (q : Option T → Prop) (e : Ending) (w' : World) : Prop :=
  ∃ o p M', e = .returned (.pointer p) ∧ otext o = x ∧ q o ∧ PT M' p o ∧ St B M w M' w'

theorem join_any {B : Nat} {M : Mp} {w : World} (h : Inv B [] M w) {p q : Option Addr} {o u : Option T} (hp : PT M p o) (hq : PT M q u) (hs : osize o + osize u ≤ lim) :
    Calls Tryd.prog 104 #[.pointer p, .pointer q] w (TextMade B M w (otext o ++ otext u) (fun v => (o = none → v = u) ∧ (u = none → v = o))) := by
  rcases hp with ⟨rfl, rfl⟩ | ⟨b, t, rfl, rfl, hb⟩
  · have S := Lib.hid (St.refl h)
    have HQ := Lib.hid hq
    clear h hq hs
    go_enter Tryd.func104, Tryd.ntmps104
    go_wp2
    go_ret
    exact ⟨u, q, M, rfl, rfl, ⟨fun _ => rfl, fun h => h⟩, HQ.out, S.out⟩
  · rcases hq with ⟨rfl, rfl⟩ | ⟨b', t', rfl, rfl, hb'⟩
    · have S := Lib.hid (St.refl h)
      have HB := Lib.hid hb
      clear h hb hs
      go_enter Tryd.func104, Tryd.ntmps104
      go_wp2
      go_ret
      exact ⟨some t, _, M, rfl, by simp [otext], ⟨fun h => h, fun _ => rfl⟩, .inr ⟨b, t, rfl, rfl, HB.out⟩, S.out⟩
    · refine (join_some (t.nn + t'.nn + 1) t t' (by omega) M w h b b' hb hb' hs).mono ?_
      rintro e w' ⟨t1, b1, M1, rfl, ht, m1, s1⟩
      exact ⟨some t1, _, M1, rfl, ht, by simp, .inr ⟨b1, t1, rfl, rfl, m1⟩, s1⟩

end Go.Proofs.YtfjdfdpelilelaaDoor
