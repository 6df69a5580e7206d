/-
  Texts of the proof, put together: Turn, Join, Once, Breaks.
-/
import Derived.Test.YtpnboieppkjfnaaGreatG06
import Derived.Deep.RegionHeld3
import Derived.Deep.RegionWith
import Derived.BigQuiet
import Derived.Deep.QuietTactic
import Derived.Tactics
import Derived.Tactics2
import Derived.Defers
import Derived.Laws.Pointers
import Derived.Laws.LoneSync
import Derived.RegionTactic
import Derived.RegionCalls
import Derived.ChangeAlike

/-
  turnLeft, turnRight, level: two trees as one.
-/
namespace Go.Proofs.YtpnboieppkjfnaaGreat
open Go.RowKit

/-- A tree of that text has been made. -/
def TreeMade (B : Nat) (M : Mp) (w : World) (x : List UInt8) (e : Ending) (w' : World) : Prop :=
  ∃ t b M', e = .returned (.pointer (some ⟨b, 0, none⟩)) ∧ t.text = x ∧ M' b = some t ∧ St B M w M' w'

theorem Made.one {B : Nat} {M : Mp} {w w' : World} {t : T} {e : Ending} (h : Made B M w (some t) e w') : ∃ b M', e = .returned (.pointer (some ⟨b, 0, none⟩)) ∧ M' b = some t ∧ St B M w M' w' := by
  obtain ⟨M', p, he, hp, hs⟩ := h
  rcases hp with ⟨_, h⟩ | ⟨b, u, rfl, hu, hb⟩
  · cases h
  · cases hu
    exact ⟨b, M', he, hb, hs⟩

set_option maxHeartbeats 1600000 in
theorem turnLeft_any {B : Nat} {M : Mp} {w : World} (h : Inv B [] M w) {ba bb : Nat} {a l r : T} (ha : M ba = some a) (hb : M bb = some (.node l r)) (hs : a.size + (l.size + r.size) ≤ lim) :
    Calls Tryz.prog 114 #[.pointer (some ⟨ba, 0, none⟩), .pointer (some ⟨bb, 0, none⟩)] w (TreeMade B M w (a.text ++ (l.text ++ r.text))) := by
  obtain ⟨bl, br, ml, mr, c0, c1, -, -⟩ := h.nodeCells hb
  obtain ⟨_, _, -, -, -, -, -, dl⟩ := h.cells ml
  obtain ⟨_, _, -, -, -, -, -, dr⟩ := h.cells mr
  have hbb := h.lt hb
  have hbl := h.lt ml
  by_cases hd : r.depth < l.depth
  · cases l with
    | leaf s => have := r.depth_pos; simp only [T.depth] at hd; omega
    | node x y =>
      obtain ⟨bx, bz, mx, my, x0, x1, -, -⟩ := h.nodeCells ml
      simp only [T.size] at hs
      unfold lim at hs
      have H := Lib.hid h
      have HA := Lib.hid ha
      have MR := Lib.hid mr
      have MX := Lib.hid mx
      have MY := Lib.hid my
      clear h ha hb ml mr mx my
      go_enter Tryz.func114, Tryz.ntmps114
      go_wp2
      go_quiet (fail)
      go_wp2
      go_region_held3 (fun w' => w'.cell? ⟨bb, 0, none⟩ = some (.pointer (some ⟨bl, 0, none⟩)) ∧ w'.cell? ⟨bb, 1, none⟩ = some (.pointer (some ⟨br, 0, none⟩)) ∧ w'.cell? ⟨bl, 0, none⟩ = some (.pointer (some ⟨bx, 0, none⟩)) ∧ w'.cell? ⟨bl, 1, none⟩ = some (.pointer (some ⟨bz, 0, none⟩)))
        (first | go_keep)
        (first
          | (go_at_call_of 50 (Value.pointer (some ⟨bx, 0, none⟩)); refine (branch_any (B := B) ?_ HA.out MX.out (by unfold lim; omega)).mono ?_; exact H.out.ali rfl; rintro e w1 q; obtain ⟨b1, M1, rfl, m1, s1⟩ := q.one; have S1 := Lib.hid (show St B M w M1 w1 from s1.ali rfl rfl rfl rfl); have P1 := Lib.hid m1; have e0 := (S1.out.fr.low bb 0 hbb (by omega)).trans c0; have e1 := (S1.out.fr.low bb 1 hbb (by omega)).trans c1; have e2 := (S1.out.fr.low bl 0 hbl (by omega)).trans x0; have e3 := (S1.out.fr.low bl 1 hbl (by omega)).trans x1; clear q m1 s1)
          | (go_at_call_of 50 (Value.pointer (some ⟨bz, 0, none⟩)); refine (branch_any S1.out.inv (S1.out.keep H.out MY.out) (S1.out.keep H.out MR.out) (by unfold lim; omega)).mono ?_; rintro e w2 q; obtain ⟨b2, M2, rfl, m2, s2⟩ := q.one; have S2 := Lib.hid s2; have P2 := Lib.hid m2; have S12 := Lib.hid (S1.out.trans s2); have f0 := (S12.out.fr.low bb 0 hbb (by omega)).trans c0; have f1 := (S12.out.fr.low bb 1 hbb (by omega)).trans c1; have f2 := (S12.out.fr.low bl 0 hbl (by omega)).trans x0; have f3 := (S12.out.fr.low bl 1 hbl (by omega)).trans x1; clear q m2 s2)
          | (go_at_call_of 50 (Value.pointer (some ⟨b2, 0, none⟩)); refine (branch_any S2.out.inv (S2.out.keep S1.out.inv P1.out) P2.out (by simp only [T.size]; unfold lim; omega)).mono ?_; rintro e w3 q; obtain ⟨b3, M3, rfl, m3, s3⟩ := q.one; have S3 := Lib.hid (S12.out.trans s3); have P3 := Lib.hid m3; have g0 := (S3.out.fr.low bb 0 hbb (by omega)).trans c0; have g1 := (S3.out.fr.low bb 1 hbb (by omega)).trans c1; have g2 := (S3.out.fr.low bl 0 hbl (by omega)).trans x0; have g3 := (S3.out.fr.low bl 1 hbl (by omega)).trans x1; clear q m3 s3))
      all_goals go_wp2
      all_goals go_ret
      all_goals exact ⟨_, b3, M3, rfl, by simp [T.text], P3.out, S3.out⟩
  · unfold lim at hs
    have H := Lib.hid h
    have HA := Lib.hid ha
    have MR := Lib.hid mr
    have ML := Lib.hid ml
    clear h ha hb ml mr
    go_enter Tryz.func114, Tryz.ntmps114
    go_wp2
    go_quiet (fail)
    go_wp2
    go_region_held3 (fun w' => w'.cell? ⟨bb, 0, none⟩ = some (.pointer (some ⟨bl, 0, none⟩)) ∧ w'.cell? ⟨bb, 1, none⟩ = some (.pointer (some ⟨br, 0, none⟩)))
      (first | go_keep)
      (first
        | (go_at_call_of 50 (Value.pointer (some ⟨bl, 0, none⟩)); refine (branch_any (B := B) ?_ HA.out ML.out (by unfold lim; omega)).mono ?_; exact H.out.ali rfl; rintro e w1 q; obtain ⟨b1, M1, rfl, m1, s1⟩ := q.one; have S1 := Lib.hid (show St B M w M1 w1 from s1.ali rfl rfl rfl rfl); have P1 := Lib.hid m1; have e0 := (S1.out.fr.low bb 0 hbb (by omega)).trans c0; have e1 := (S1.out.fr.low bb 1 hbb (by omega)).trans c1; clear q m1 s1)
        | (go_at_call_of 50 (Value.pointer (some ⟨br, 0, none⟩)); refine (branch_any S1.out.inv P1.out (S1.out.keep H.out MR.out) (by simp only [T.size]; unfold lim; omega)).mono ?_; rintro e w2 q; obtain ⟨b2, M2, rfl, m2, s2⟩ := q.one; have S2 := Lib.hid (S1.out.trans s2); have P2 := Lib.hid m2; have f0 := (S2.out.fr.low bb 0 hbb (by omega)).trans c0; have f1 := (S2.out.fr.low bb 1 hbb (by omega)).trans c1; clear q m2 s2))
    all_goals go_wp2
    all_goals go_ret
    all_goals exact ⟨_, b2, M2, rfl, by simp [T.text], P2.out, S2.out⟩

set_option maxHeartbeats 1600000 in
theorem turnRight_any {B : Nat} {M : Mp} {w : World} (h : Inv B [] M w) {ba bb : Nat} {a l r : T} (ha : M ba = some (.node l r)) (hb : M bb = some a) (hs : (l.size + r.size) + a.size ≤ lim) :
    Calls Tryz.prog 115 #[.pointer (some ⟨ba, 0, none⟩), .pointer (some ⟨bb, 0, none⟩)] w (TreeMade B M w ((l.text ++ r.text) ++ a.text)) := by
  obtain ⟨bl, br, ml, mr, c0, c1, -, -⟩ := h.nodeCells ha
  obtain ⟨_, _, -, -, -, -, -, dl⟩ := h.cells ml
  obtain ⟨_, _, -, -, -, -, -, dr⟩ := h.cells mr
  have hba := h.lt ha
  have hbr := h.lt mr
  by_cases hd : l.depth < r.depth
  · cases r with
    | leaf s => have := l.depth_pos; simp only [T.depth] at hd; omega
    | node x y =>
      obtain ⟨bx, bz, mx, my, x0, x1, -, -⟩ := h.nodeCells mr
      simp only [T.size] at hs
      unfold lim at hs
      have H := Lib.hid h
      have HB := Lib.hid hb
      have ML := Lib.hid ml
      have MX := Lib.hid mx
      have MY := Lib.hid my
      clear h ha hb ml mr mx my
      go_enter Tryz.func115, Tryz.ntmps115
      go_wp2
      go_quiet (fail)
      go_wp2
      go_region_held3 (fun w' => w'.cell? ⟨ba, 0, none⟩ = some (.pointer (some ⟨bl, 0, none⟩)) ∧ w'.cell? ⟨ba, 1, none⟩ = some (.pointer (some ⟨br, 0, none⟩)) ∧ w'.cell? ⟨br, 0, none⟩ = some (.pointer (some ⟨bx, 0, none⟩)) ∧ w'.cell? ⟨br, 1, none⟩ = some (.pointer (some ⟨bz, 0, none⟩)))
        (first | go_keep)
        (first
          | (go_at_call_of 50 (Value.pointer (some ⟨bx, 0, none⟩)); refine (branch_any (B := B) ?_ ML.out MX.out (by unfold lim; omega)).mono ?_; exact H.out.ali rfl; rintro e w1 q; obtain ⟨b1, M1, rfl, m1, s1⟩ := q.one; have S1 := Lib.hid (show St B M w M1 w1 from s1.ali rfl rfl rfl rfl); have P1 := Lib.hid m1; have e0 := (S1.out.fr.low ba 0 hba (by omega)).trans c0; have e1 := (S1.out.fr.low ba 1 hba (by omega)).trans c1; have e2 := (S1.out.fr.low br 0 hbr (by omega)).trans x0; have e3 := (S1.out.fr.low br 1 hbr (by omega)).trans x1; clear q m1 s1)
          | (go_at_call_of 50 (Value.pointer (some ⟨bz, 0, none⟩)); refine (branch_any S1.out.inv (S1.out.keep H.out MY.out) (S1.out.keep H.out HB.out) (by unfold lim; omega)).mono ?_; rintro e w2 q; obtain ⟨b2, M2, rfl, m2, s2⟩ := q.one; have S2 := Lib.hid s2; have P2 := Lib.hid m2; have S12 := Lib.hid (S1.out.trans s2); have f0 := (S12.out.fr.low ba 0 hba (by omega)).trans c0; have f1 := (S12.out.fr.low ba 1 hba (by omega)).trans c1; have f2 := (S12.out.fr.low br 0 hbr (by omega)).trans x0; have f3 := (S12.out.fr.low br 1 hbr (by omega)).trans x1; clear q m2 s2)
          | (go_at_call_of 50 (Value.pointer (some ⟨b2, 0, none⟩)); refine (branch_any S2.out.inv (S2.out.keep S1.out.inv P1.out) P2.out (by simp only [T.size]; unfold lim; omega)).mono ?_; rintro e w3 q; obtain ⟨b3, M3, rfl, m3, s3⟩ := q.one; have S3 := Lib.hid (S12.out.trans s3); have P3 := Lib.hid m3; have g0 := (S3.out.fr.low ba 0 hba (by omega)).trans c0; have g1 := (S3.out.fr.low ba 1 hba (by omega)).trans c1; have g2 := (S3.out.fr.low br 0 hbr (by omega)).trans x0; have g3 := (S3.out.fr.low br 1 hbr (by omega)).trans x1; clear q m3 s3))
      all_goals go_wp2
      all_goals go_ret
      all_goals exact ⟨_, b3, M3, rfl, by simp [T.text], P3.out, S3.out⟩
  · unfold lim at hs
    have H := Lib.hid h
    have HB := Lib.hid hb
    have MR := Lib.hid mr
    have ML := Lib.hid ml
    clear h ha hb ml mr
    go_enter Tryz.func115, Tryz.ntmps115
    go_wp2
    go_quiet (fail)
    go_wp2
    go_region_held3 (fun w' => w'.cell? ⟨ba, 0, none⟩ = some (.pointer (some ⟨bl, 0, none⟩)) ∧ w'.cell? ⟨ba, 1, none⟩ = some (.pointer (some ⟨br, 0, none⟩)))
      (first | go_keep)
      (first
        | (go_at_call_of 50 (Value.pointer (some ⟨br, 0, none⟩)); refine (branch_any (B := B) ?_ MR.out HB.out (by unfold lim; omega)).mono ?_; exact H.out.ali rfl; rintro e w1 q; obtain ⟨b1, M1, rfl, m1, s1⟩ := q.one; have S1 := Lib.hid (show St B M w M1 w1 from s1.ali rfl rfl rfl rfl); have P1 := Lib.hid m1; have e0 := (S1.out.fr.low ba 0 hba (by omega)).trans c0; have e1 := (S1.out.fr.low ba 1 hba (by omega)).trans c1; clear q m1 s1)
        | (go_at_call_of 50 (Value.pointer (some ⟨bl, 0, none⟩)); refine (branch_any S1.out.inv (S1.out.keep H.out ML.out) P1.out (by simp only [T.size]; unfold lim; omega)).mono ?_; rintro e w2 q; obtain ⟨b2, M2, rfl, m2, s2⟩ := q.one; have S2 := Lib.hid (S1.out.trans s2); have P2 := Lib.hid m2; have f0 := (S2.out.fr.low ba 0 hba (by omega)).trans c0; have f1 := (S2.out.fr.low ba 1 hba (by omega)).trans c1; clear q m2 s2))
    all_goals go_wp2
    all_goals go_ret
    all_goals exact ⟨_, b2, M2, rfl, by simp [T.text], P2.out, S2.out⟩

set_option maxHeartbeats 1600000 in
theorem level_any {B : Nat} {M : Mp} {w : World} (h : Inv B [] M w) {ba bb : Nat} {a b : T} (ha : M ba = some a) (hb : M bb = some b) (hs : a.size + b.size ≤ lim) :
    Calls Tryz.prog 98 #[.pointer (some ⟨ba, 0, none⟩), .pointer (some ⟨bb, 0, none⟩)] w (TreeMade B M w (a.text ++ b.text)) := by
  obtain ⟨_, _, -, -, -, -, -, da⟩ := h.cells ha
  obtain ⟨_, _, -, -, -, -, -, db⟩ := h.cells hb
  have fa := a.depth_le (h.full ba a ha).1
  have fb := b.depth_le (h.full bb b hb).1
  have hs' := hs
  unfold lim at hs'
  have pa := a.depth_pos
  have pb := b.depth_pos
  have H := Lib.hid h
  have HA := Lib.hid ha
  have HB := Lib.hid hb
  have HS := Lib.hid hs
  clear h ha hb hs
  by_cases h1 : a.depth + 1 < b.depth
  · have hw : ((a.depth : Int) + 1 < (b.depth : Int)) := by omega
    cases b with
    | leaf s => simp only [T.depth] at h1; omega
    | node l r =>
      have HT := Lib.hid (show a.size + (l.size + r.size) ≤ lim from HS.out)
      go_enter Tryz.func98, Tryz.ntmps98
      go_wp2
      go_quiet (fail)
      go_wp2_with (go_at_call 114; refine (turnLeft_any (B := B) ?_ HA.out HB.out HT.out).mono ?_; exact H.out.ali rfl; rintro e w1 ⟨t, b1, M1, rfl, ht, m1, s1⟩; have HH := Lib.hid ht; have S1 := Lib.hid (show St B M w M1 w1 from s1.ali rfl rfl rfl rfl); have P1 := Lib.hid m1; clear ht s1 m1)
      go_ret
      exact ⟨t, b1, M1, rfl, HH.out, P1.out, S1.out⟩
  · have hw1 : ¬ ((a.depth : Int) + 1 < (b.depth : Int)) := by omega
    by_cases h2 : b.depth + 1 < a.depth
    · have hw2 : ((b.depth : Int) + 1 < (a.depth : Int)) := by omega
      cases a with
      | leaf s => simp only [T.depth] at h2; omega
      | node l r =>
        have HT := Lib.hid (show (l.size + r.size) + b.size ≤ lim from HS.out)
        go_enter Tryz.func98, Tryz.ntmps98
        go_wp2
        go_quiet (fail)
        go_wp2
        go_quiet (fail)
        go_wp2_with (go_at_call 115; refine (turnRight_any (B := B) ?_ HA.out HB.out HT.out).mono ?_; exact H.out.ali rfl; rintro e w1 ⟨t, b1, M1, rfl, ht, m1, s1⟩; have HH := Lib.hid ht; have S1 := Lib.hid (show St B M w M1 w1 from s1.ali rfl rfl rfl rfl); have P1 := Lib.hid m1; clear ht s1 m1)
        go_ret
        exact ⟨t, b1, M1, rfl, HH.out, P1.out, S1.out⟩
    · have hw2 : ¬ ((b.depth : Int) + 1 < (a.depth : Int)) := by omega
      go_enter Tryz.func98, Tryz.ntmps98
      go_wp2
      go_quiet (fail)
      go_wp2
      go_quiet (fail)
      go_wp2_with (go_at_call 50; refine (branch_any (B := B) ?_ HA.out HB.out HS.out).mono ?_; exact H.out.ali rfl; rintro e w1 q; obtain ⟨b1, M1, rfl, m1, s1⟩ := q.one; have S1 := Lib.hid (show St B M w M1 w1 from s1.ali rfl rfl rfl rfl); have P1 := Lib.hid m1; clear q m1 s1)
      go_ret
      exact ⟨_, b1, M1, rfl, rfl, P1.out, S1.out⟩

end Go.Proofs.YtpnboieppkjfnaaGreat

/-
  join: two trees of any depths as one.
-/
namespace Go.Proofs.YtpnboieppkjfnaaGreat
open Go.RowKit

set_option maxHeartbeats 3200000 in
theorem join_some {B : Nat} : ∀ (n : Nat) (a b : T), a.nn + b.nn < n → ∀ (M : Mp) (w : World), Inv B [] M w → ∀ (ba bb : Nat), M ba = some a → M bb = some b → a.size + b.size ≤ lim →
    Calls Tryz.prog 80 #[.pointer (some ⟨ba, 0, none⟩), .pointer (some ⟨bb, 0, none⟩)] w (TreeMade B M w (a.text ++ b.text)) := by
  intro n
  induction n with
  | zero => intro a b hn; omega
  | succ n ih =>
  intro a b hn M w h ba bb ha hb hs
  obtain ⟨_, _, -, -, -, -, -, da⟩ := h.cells ha
  obtain ⟨_, _, -, -, -, -, -, db⟩ := h.cells hb
  have fa := a.depth_le (h.full ba a ha).1
  have fb := b.depth_le (h.full bb b hb).1
  have hs' := hs
  unfold lim at hs'
  have hba := h.lt ha
  have hbb := h.lt hb
  have hda : a.depth ≤ 1000000 := by omega
  have hdb : b.depth ≤ 1000000 := by omega
  have pa := a.depth_pos
  have pb := b.depth_pos
  have H := Lib.hid h
  have HA := Lib.hid ha
  have HB := Lib.hid hb
  have HS := Lib.hid hs
  have IH := Lib.hid ih
  by_cases h1 : b.depth + 1 < a.depth
  · have hw : ((b.depth : Int) + 1 < (a.depth : Int)) := by omega
    cases a with
    | leaf s => simp only [T.depth] at h1; omega
    | node l r =>
      obtain ⟨bl, br, ml, mr, c0, c1, -, -⟩ := h.nodeCells ha
      have ML := Lib.hid ml
      have MR := Lib.hid mr
      simp only [T.nn] at hn
      simp only [T.size] at hs'
      clear h ha hb hs ih ml mr
      go_enter Tryz.func80, Tryz.ntmps80
      go_wp2
      go_quiet (fail)
      go_wp2
      go_region_held3 (fun w' => w'.cell? ⟨ba, 0, none⟩ = some (.pointer (some ⟨bl, 0, none⟩)) ∧ w'.cell? ⟨ba, 1, none⟩ = some (.pointer (some ⟨br, 0, none⟩)))
        (first | go_keep)
        (first
          | (go_at_call 80; refine (IH.out r b (by omega) M _ ?_ br bb MR.out HB.out (by unfold lim; omega)).mono ?_; exact H.out.ali rfl; rintro e w1 ⟨t1, b1, M1, rfl, ht1, m1, s1⟩; have HT1 := Lib.hid ht1; have S1 := Lib.hid (show St B M w M1 w1 from s1.ali rfl rfl rfl rfl); have P1 := Lib.hid m1; have e0 := (S1.out.fr.low ba 0 hba (by omega)).trans c0; have e1 := (S1.out.fr.low ba 1 hba (by omega)).trans c1; clear ht1 m1 s1)
          | (go_at_call 98; refine (level_any S1.out.inv (S1.out.keep H.out ML.out) P1.out (by rw [T.size_eq t1, HT1.out, List.length_append, ← T.size_eq, ← T.size_eq]; unfold lim; omega)).mono ?_; rintro e w2 ⟨t2, b2, M2, rfl, ht2, m2, s2⟩; have HT2 := Lib.hid ht2; have S2 := Lib.hid (S1.out.trans s2); have P2 := Lib.hid m2; have f0 := (S2.out.fr.low ba 0 hba (by omega)).trans c0; have f1 := (S2.out.fr.low ba 1 hba (by omega)).trans c1; clear ht2 m2 s2))
      all_goals go_wp2
      all_goals go_ret
      all_goals exact ⟨t2, b2, M2, rfl, by rw [HT2.out, HT1.out]; simp [T.text], P2.out, S2.out⟩
  · have hw1 : ¬ ((b.depth : Int) + 1 < (a.depth : Int)) := by omega
    by_cases h2 : a.depth + 1 < b.depth
    · have hw2 : ((a.depth : Int) + 1 < (b.depth : Int)) := by omega
      cases b with
      | leaf s => simp only [T.depth] at h2; omega
      | node l r =>
        obtain ⟨bl, br, ml, mr, c0, c1, -, -⟩ := h.nodeCells hb
        have ML := Lib.hid ml
        have MR := Lib.hid mr
        simp only [T.nn] at hn
        simp only [T.size] at hs'
        clear h ha hb hs ih ml mr
        go_enter Tryz.func80, Tryz.ntmps80
        go_wp2
        go_quiet (fail)
        go_wp2
        go_quiet (fail)
        go_wp2
        go_region_held3 (fun w' => w'.cell? ⟨bb, 0, none⟩ = some (.pointer (some ⟨bl, 0, none⟩)) ∧ w'.cell? ⟨bb, 1, none⟩ = some (.pointer (some ⟨br, 0, none⟩)))
          (first | go_keep)
          (first
            | (go_at_call 80; refine (IH.out a l (by omega) M _ ?_ ba bl HA.out ML.out (by unfold lim; omega)).mono ?_; exact H.out.ali rfl; rintro e w1 ⟨t1, b1, M1, rfl, ht1, m1, s1⟩; have HT1 := Lib.hid ht1; have S1 := Lib.hid (show St B M w M1 w1 from s1.ali rfl rfl rfl rfl); have P1 := Lib.hid m1; have e0 := (S1.out.fr.low bb 0 hbb (by omega)).trans c0; have e1 := (S1.out.fr.low bb 1 hbb (by omega)).trans c1; clear ht1 m1 s1)
            | (go_at_call 98; refine (level_any S1.out.inv P1.out (S1.out.keep H.out MR.out) (by rw [T.size_eq t1, HT1.out, List.length_append, ← T.size_eq, ← T.size_eq]; unfold lim; omega)).mono ?_; rintro e w2 ⟨t2, b2, M2, rfl, ht2, m2, s2⟩; have HT2 := Lib.hid ht2; have S2 := Lib.hid (S1.out.trans s2); have P2 := Lib.hid m2; have f0 := (S2.out.fr.low bb 0 hbb (by omega)).trans c0; have f1 := (S2.out.fr.low bb 1 hbb (by omega)).trans c1; clear ht2 m2 s2))
        all_goals go_wp2
        all_goals go_ret
        all_goals exact ⟨t2, b2, M2, rfl, by rw [HT2.out, HT1.out]; simp [T.text], P2.out, S2.out⟩
    · have hw2 : ¬ ((a.depth : Int) + 1 < (b.depth : Int)) := by omega
      clear h ha hb hs ih
      go_enter Tryz.func80, Tryz.ntmps80
      go_wp2
      go_quiet (fail)
      go_wp2
      go_quiet (fail)
      go_wp2_with (go_at_call 50; refine (branch_any (B := B) ?_ HA.out HB.out HS.out).mono ?_; exact H.out.ali rfl; rintro e w1 q; obtain ⟨b1, M1, rfl, m1, s1⟩ := q.one; have S1 := Lib.hid (show St B M w M1 w1 from s1.ali rfl rfl rfl rfl); have P1 := Lib.hid m1; clear q m1 s1)
      go_ret
      exact ⟨_, b1, M1, rfl, rfl, P1.out, S1.out⟩

/-- A tree of that text, or none where the text is empty. -/
def TextMade (B : Nat) (M : Mp) (w : World) (x : List UInt8) (q : Option T → Prop) (e : Ending) (w' : World) : Prop :=
  ∃ o p M', e = .returned (.pointer p) ∧ otext o = x ∧ q o ∧ PT M' p o ∧ St B M w M' w'

theorem join_any {B : Nat} {M : Mp} {w : World} (h : Inv B [] M w) {p q : Option Addr} {o u : Option T} (hp : PT M p o) (hq : PT M q u) (hs : osize o + osize u ≤ lim) :
    Calls Tryz.prog 80 #[.pointer p, .pointer q] w (TextMade B M w (otext o ++ otext u) (fun v => (o = none → v = u) ∧ (u = none → v = o))) := by
  rcases hp with ⟨rfl, rfl⟩ | ⟨b, t, rfl, rfl, hb⟩
  · have S := Lib.hid (St.refl h)
    have HQ := Lib.hid hq
    clear h hq hs
    go_enter Tryz.func80, Tryz.ntmps80
    go_wp2
    go_ret
    exact ⟨u, q, M, rfl, rfl, ⟨fun _ => rfl, fun h => h⟩, HQ.out, S.out⟩
  · rcases hq with ⟨rfl, rfl⟩ | ⟨b', t', rfl, rfl, hb'⟩
    · have S := Lib.hid (St.refl h)
      have HB := Lib.hid hb
      clear h hb hs
      go_enter Tryz.func80, Tryz.ntmps80
      go_wp2
      go_ret
      exact ⟨some t, _, M, rfl, by simp [otext], ⟨fun h => h, fun _ => rfl⟩, .inr ⟨b, t, rfl, rfl, HB.out⟩, S.out⟩
    · refine (join_some (t.nn + t'.nn + 1) t t' (by omega) M w h b b' hb hb' hs).mono ?_
      rintro e w' ⟨t1, b1, M1, rfl, ht, m1, s1⟩
      exact ⟨some t1, _, M1, rfl, ht, by simp, .inr ⟨b1, t1, rfl, rfl, m1⟩, s1⟩

end Go.Proofs.YtpnboieppkjfnaaGreat

/-
  sync.Once.Do in one goroutine, for a closure of which a contract is handed in.
-/
namespace Go.Proofs.YtpnboieppkjfnaaGreat
open Go.RowKit

theorem disable (w : World) : (callFunc 116 #[]).run Tryz.prog w = .ok (.value (.tuple #[])) w := run_call_mark0 Tryz.func116 (by kernel_rfl) (by kernel_rfl) (by kernel_rfl) .disable (by kernel_rfl) w
theorem enable (w : World) : (callFunc 118 #[]).run Tryz.prog w = .ok (.value (.tuple #[])) w := run_call_mark0 Tryz.func118 (by kernel_rfl) (by kernel_rfl) (by kernel_rfl) .enable (by kernel_rfl) w
theorem acquire (a : Addr) (w : World) : (callFunc 119 #[.pointer (some a)]).run Tryz.prog w = .ok (.value (.tuple #[])) w := run_call_marked Tryz.func119 (by kernel_rfl) (by kernel_rfl) (by kernel_rfl) .acquire (by kernel_rfl) a w
theorem releaseMerge (a : Addr) (w : World) : (callFunc 121 #[.pointer (some a)]).run Tryz.prog w = .ok (.value (.tuple #[])) w := run_call_marked Tryz.func121 (by kernel_rfl) (by kernel_rfl) (by kernel_rfl) .releaseMerge (by kernel_rfl) a w

theorem store_deferred (a : Addr) (x : Value) (u : FrameMode) (w : World) (hc : w.cell? a = some x) (hz : w.frozen? a = false) :
    CallsD Tryz.prog 84 #[.pointer (some a), .bool true] u w fun e u' w' => u' = u ∧ (e = .returned (.tuple #[]) ∧ w' = w.drew.setCell a (.int .u32 1)) := by
  have hc' : w.drew.cell? a = some x := by go_simp
  have hz' : w.drew.frozen? a = false := by go_simp
  have hst := run_call_store (P := Tryz.prog) Tryz.func101 (by kernel_rfl) (by kernel_rfl) (by kernel_rfl) (by kernel_rfl) (k := .u32) (y := 1) hc' hz'
  go_enter_d Tryz.func84, Tryz.ntmps84
  go_wp2
  go_region_calls
  all_goals (go_end0; exact ⟨rfl, rfl⟩)

set_option maxRecDepth 100000 in
theorem unlock_deferred (a : Addr) (u : FrameMode) (w : World) (hc : w.cell? a = some (.int .i32 1)) (hz : w.frozen? a = false) :
    CallsD Tryz.prog 83 #[.pointer (some a)] u w fun e u' w' => u' = u ∧ (e = .returned (.tuple #[]) ∧ w' = w.setCell a (.int .i32 0)) := by
  have hd := disable
  have he := enable
  have hr := releaseMerge
  have hadd := run_call_add (P := Tryz.prog) Tryz.func122 (by kernel_rfl) (by kernel_rfl) (by kernel_rfl) .i32 (by kernel_rfl) (y := -1) (s := 0) hc hz (by simp [go_sem]; rfl)
  have hcv := run_convert_to_unsafe (P := Tryz.prog) (src := 191) (dst := 188) Tryz.underlying191 Tryz.underlying188 (by kernel_rfl) hc
  go_enter_d Tryz.func83, Tryz.ntmps83
  go_wp2
  go_end0
  go_wp2
  go_end0
  exact ⟨rfl, rfl⟩

set_option maxRecDepth 100000 in
theorem lock_free (a : Addr) (w : World) (hc : w.cell? a = some (.int .i32 0)) (hz : w.frozen? a = false) :
    Calls Tryz.prog 82 #[.pointer (some a)] w fun e w' => e = .returned (.tuple #[]) ∧ w' = w.setCell a (.int .i32 1) := by
  have hd := disable
  have he := enable
  have ha := acquire
  have hcas := run_call_cas_hit (P := Tryz.prog) Tryz.func117 (by kernel_rfl) (by kernel_rfl) (by kernel_rfl) .i32 (by kernel_rfl) (y := 1) hc hz
  have hc' : (w.setCell a (.int .i32 1)).cell? a = some (.int .i32 1) := World.cell?_setCell_same w a _ hc
  have hcv := run_convert_to_unsafe (P := Tryz.prog) (src := 191) (dst := 188) Tryz.underlying191 Tryz.underlying188 (by kernel_rfl) hc'
  go_enter Tryz.func82, Tryz.ntmps82
  go_wp2
  first | go_end0 | (simp only [Exit.inBlock, Exit.then]; refine bodyPost_ret (results_none rfl _ _ _) rfl ?_) | refine bodyPost_ret (results_none rfl _ _ _) rfl ?_
  go_wp2
  go_end0
  exact ⟨rfl, rfl⟩

theorem loaded (a : Addr) (d : Int) (w : World) (h0 : w.cell? a = some (.int .u32 d)) (x : Bool) (hx : (d != 0) = x) :
    Calls Tryz.prog 66 #[.pointer (some a)] w fun e w' => e = .returned (.bool x) ∧ w = w' := by
  have hl := run_call_load (P := Tryz.prog) Tryz.func81 (by kernel_rfl) (by kernel_rfl) (by kernel_rfl) .u32 (by kernel_rfl) h0
  subst hx
  go_enter Tryz.func66, Tryz.ntmps66
  go_wp2
  go_ret
  exact ⟨rfl, rfl⟩

/-- What is asked of the closure: it leaves the lock and the mark alone. -/
def ClosurePost (b : Nat) (Q : World → Prop) (e : Ending) (w : World) : Prop :=
  e = .returned (.tuple #[]) ∧ w.cell? ⟨b, 5, none⟩ = some (.int .u32 0) ∧ w.cell? ⟨b, 6, none⟩ = some (.int .i32 1) ∧ w.frozen? ⟨b, 5, none⟩ = false ∧ w.frozen? ⟨b, 6, none⟩ = false ∧ Q w

/-- What comes of it. -/
def OncePost (b : Nat) (Q : World → Prop) (e : Ending) (w' : World) : Prop :=
  e = .returned (.tuple #[]) ∧ ∃ w2, Q w2 ∧ w' = (w2.drew.setCell ⟨b, 5, none⟩ (.int .u32 1)).setCell ⟨b, 6, none⟩ (.int .i32 0)

theorem do_done (a : Addr) (fv : Value) (w : World) (h0 : w.cell? a = some (.int .u32 1)) :
    Calls Tryz.prog 43 #[.pointer (some a), fv] w fun e w' => e = .returned (.tuple #[]) ∧ w = w' := by
  have hnot : ∀ (x : Bool) (w : World), (Op.unary .not (.bool x)).run Tryz.prog w = .ok (.bool (!x)) w := fun _ _ => rfl
  go_enter Tryz.func43, Tryz.ntmps43
  go_wp2_with (go_at_call 66; refine (loaded a 1 _ h0 true (by decide)).mono ?_; rintro e w' ⟨rfl, rfl⟩)
  go_end0
  exact ⟨rfl, rfl⟩

end Go.Proofs.YtpnboieppkjfnaaGreat

/-
  lineBreaks: how many line breaks a tree has, counted once a node.
-/
namespace Go.Proofs.YtpnboieppkjfnaaGreat
open Go.RowKit

theorem heap_set {w : World} {b j : Nat} {cs : Array Value} {T : TypeId} {fr : Nat × Nat} (h : w.heap[b]? = some (.cells cs T fr)) (v : Value) : (w.setCell ⟨b, j, none⟩ v).heap[b]? = some (.cells (cs.setIfInBounds j v) T fr) := by
  simp [World.setCell, Array.getElem?_modify, h]

theorem heap_set_size (w : World) (a : Addr) (v : Value) : (w.setCell a v).heap.size = w.heap.size := by simp [World.setCell]

theorem set5 (lp rp : Option Addr) (t : T) (d st q br d' : Int) : nodeObj lp rp t d' st q br = .cells ((#[Value.pointer lp, .pointer rp, .string t.str, .int .i64 (t.size : Int), .int .i64 (t.depth : Int), .int .u32 d, .int .i32 st, .int .u32 q, .int .i64 br]).setIfInBounds 5 (.int .u32 d')) 144 (0, 0) := rfl
theorem set6 (lp rp : Option Addr) (t : T) (d st q br st' : Int) : nodeObj lp rp t d st' q br = .cells ((#[Value.pointer lp, .pointer rp, .string t.str, .int .i64 (t.size : Int), .int .i64 (t.depth : Int), .int .u32 d, .int .i32 st, .int .u32 q, .int .i64 br]).setIfInBounds 6 (.int .i32 st')) 144 (0, 0) := rfl
theorem set8 (lp rp : Option Addr) (t : T) (d st q br br' : Int) : nodeObj lp rp t d st q br' = .cells ((#[Value.pointer lp, .pointer rp, .string t.str, .int .i64 (t.size : Int), .int .i64 (t.depth : Int), .int .u32 d, .int .i32 st, .int .u32 q, .int .i64 br]).setIfInBounds 8 (.int .i64 br')) 144 (0, 0) := rfl

theorem node_set5 {w : World} {b : Nat} {lp rp : Option Addr} {t : T} {d st q br : Int} (h : w.heap[b]? = some (nodeObj lp rp t d st q br)) (d' : Int) : (w.setCell ⟨b, 5, none⟩ (.int .u32 d')).heap[b]? = some (nodeObj lp rp t d' st q br) := heap_set h _
theorem node_set6 {w : World} {b : Nat} {lp rp : Option Addr} {t : T} {d st q br : Int} (h : w.heap[b]? = some (nodeObj lp rp t d st q br)) (st' : Int) : (w.setCell ⟨b, 6, none⟩ (.int .i32 st')).heap[b]? = some (nodeObj lp rp t d st' q br) := heap_set h _
theorem node_set8 {w : World} {b : Nat} {lp rp : Option Addr} {t : T} {d st q br : Int} (h : w.heap[b]? = some (nodeObj lp rp t d st q br)) (br' : Int) : (w.setCell ⟨b, 8, none⟩ (.int .i64 br')).heap[b]? = some (nodeObj lp rp t d st q br') := heap_set h _

theorem node_cells {w : World} {b : Nat} {lp rp : Option Addr} {t : T} {d st q br : Int} (h : w.heap[b]? = some (nodeObj lp rp t d st q br)) :
    w.cell? ⟨b, 0, none⟩ = some (.pointer lp) ∧ w.cell? ⟨b, 1, none⟩ = some (.pointer rp) ∧ w.cell? ⟨b, 2, none⟩ = some (.string t.str) ∧ w.cell? ⟨b, 5, none⟩ = some (.int .u32 d) ∧ w.cell? ⟨b, 6, none⟩ = some (.int .i32 st) ∧ w.cell? ⟨b, 8, none⟩ = some (.int .i64 br) := by
  unfold nodeObj at h
  refine ⟨?_, ?_, ?_, ?_, ?_, ?_⟩ <;> (rw [Lib.cell_of_heap h]; rfl)

theorem node_free {w : World} {b : Nat} {lp rp : Option Addr} {t : T} {d st q br : Int} (h : w.heap[b]? = some (nodeObj lp rp t d st q br)) (j : Nat) : w.frozen? ⟨b, j, none⟩ = false := Lib.frozen_of_heap h j

theorem Inv.upper {B : Nat} {L : List Nat} {M : Mp} {w : World} (h : Inv B L M w) {b : Nat} {t : T} (hb : M b = some t) : ∃ br, w.cell? ⟨b, 8, none⟩ = some (.int .i64 br) ∧ w.frozen? ⟨b, 8, none⟩ = false := by
  obtain ⟨lp, rp, d, st, q, br, hh, _⟩ := h.node b t hb
  exact ⟨br, (node_cells hh).2.2.2.2.2, node_free hh 8⟩

/-- A store into a node's upper cells. -/
theorem Fr.setUpper {M : Mp} {w : World} {b : Nat} {t : T} (hb : M b = some t) {j : Nat} (hj : 5 ≤ j) (v : Value) : Fr M w (w.setCell ⟨b, j, none⟩ v) :=
  ⟨rfl, rfl, rfl, Nat.le_of_eq (heap_set_size w _ v).symm, fun k _ hn => Below.heap_setCell _ _ _ _ (fun e => by
      have e' : k = b := e
      rw [e', hb] at hn; cases hn),
    fun k i _ hi => World.cell?_setCell_other _ _ _ _ (fun e => by
      have := congrArg Addr.off e
      simp at this
      omega)⟩

theorem Fr.of_drew {M : Mp} {w w' : World} (s : Fr M w.drew w') : Fr M w w' := ⟨s.os, s.tape, s.output, s.size, s.block, s.low⟩
theorem Fr.drew {M : Mp} {w w' : World} (s : Fr M w w') : Fr M w w'.drew := ⟨s.os, s.tape, s.output, s.size, s.block, s.low⟩

/-- Behind the closure: the node has its count, and nothing else of it has turned. -/
def Counted (B : Nat) (L : List Nat) (M : Mp) (w : World) (b : Nat) (t : T) (w2 : World) : Prop :=
  Inv B (b :: L) M w2 ∧ Fr M w w2 ∧ ∃ lp rp q, w2.heap[b]? = some (nodeObj lp rp t 0 1 q (t.nl : Int)) ∧ kids M t lp rp

/-- What lineBreaks leaves. -/
def LB (B : Nat) (L : List Nat) (M : Mp) (w : World) (t : T) (e : Ending) (w' : World) : Prop :=
  e = .returned (.int .i64 (t.nl : Int)) ∧ Inv B L M w' ∧ Fr M w w'

end Go.Proofs.YtpnboieppkjfnaaGreat
