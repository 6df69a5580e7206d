/-
  Texts of the proof, put together: ReQ, ReR.
-/
import Derived.Test.YtpnboieppkjfnaaGreatG45
import Derived.Test.YtpnboieppkjfnaaGreatG33

/-
  Is a document that of its text? It is, always.
-/
namespace Go.Proofs.YtpnboieppkjfnaaGreat
open Go.RowKit

def FlatPost (F : ByteArray) (lines : List Ln) (w : World) (e : Ending) (w' : World) : Prop := ∃ (a : Option Addr) (n cap : Nat), e = .returned (.slice a n cap) ∧ LinesAt F lines (.slice a n cap) w' ∧ Below w.heap.size w w'
theorem flat6_any {w : World} {F : ByteArray} {v : Value} {lines : List Ln} (h : LR0 F 87 v lines w) (hl : lines.length ≤ 500000) : Calls Tryz.prog 21 #[v] w (FlatPost F lines w) := by
  obtain ⟨P, hP, h1, h2⟩ := h
  have hPl : P.length = lines.length := by rw [← hP, List.length_map]
  refine (flat_any h1 (fun p hp => ?_) (by omega)).mono ?_
  · obtain ⟨a, cap, hv, -⟩ := row_form (h2 p hp).1
    exact ⟨a, _, cap, hv⟩
  · rintro e w' ⟨a, n, cap, rfl, rfl, hU⟩
    have hR : LRow (W0 w) F 89 (.slice a P.length cap) lines w' := ⟨P, hP, Up.lower hU h1.2, fun p hp => Up.over (h2 p hp) hU.2⟩
    exact ⟨a, _, cap, rfl, hR.at, hU.2⟩

def RPost (F : ByteArray) (R : Acc) (w : World) (e : Ending) (w' : World) : Prop :=
  ∃ la n lc da m dc, e = .returned (.tuple #[.slice la n lc, .slice da m dc]) ∧ LR0 F 89 (.slice la n lc) R.lines w' ∧ DR0 F (.slice da m dc) R.diags w' ∧ Below w.heap.size w w' ∧ n = R.lines.length
theorem rlines_is (F s : ByteArray) (hs : s.size ≤ 65536) (W : World) : Calls Tryz.prog 19 #[.string F, .string s] W (RPost F (FL s.data.toList) W) := by
  have h := rlines_any F s W (by omega)
  refine h.mono ?_
  rintro e w' ⟨la, n, lc, da, m, dc, rfl, h1, h2, h3, h4⟩
  have hz : linesA (charsL s.data.toList) s.size = FL s.data.toList := by unfold FL; rw [len_byte]
  rw [hz] at h1 h3 h4
  exact ⟨la, n, lc, da, m, dc, rfl, h3.zero, h4.zero, h3.low, h1⟩

def IsPost (B : Nat) (M : Mp) (D : DT) (w : World) (e : Ending) (w' : World) : Prop := e = .returned (.bool true) ∧ Stp B M D w M D w'

def f102 : ByteArray := ⟨#[102]⟩

set_option maxRecDepth 100000 in
set_option maxHeartbeats 3200000 in
theorem is_any {B : Nat} {M : Mp} {D : DT} {w : World} (h : All B M D w) {p : Nat} {i : DI} (hp : D p = some i) (hF : i.F = ⟨#[102]⟩) (s : ByteArray) (hs : i.l = s.data.toList) : Calls Tryz.prog 8 #[.pointer (some ⟨p, 0, none⟩), .string s] w (IsPost B M D w) := by
  have hlen : i.l.length ≤ 65536 := by obtain ⟨r, o, -, -, h3, -⟩ := (h.doc p i hp).1.cells; exact h3
  have hsz : s.size ≤ 65536 := by rw [hs, len_byte] at hlen; exact hlen
  have hFL := FL_many hlen
  have hst : (⟨i.l.toArray⟩ : ByteArray) = s := by rw [hs]
  have HT : Hid (Calls Tryz.prog 18 #[.pointer (some ⟨p, 0, none⟩)] w fun e w' => e = .returned (.string s) ∧ Stp B M D w M D w') := Lib.hid ((dtext_any h hp).mono (by
    rintro e w' ⟨rfl, hb⟩
    exact ⟨by rw [hst], Stp.below h hb⟩))
  have HRL : Hid (∀ X : World, Calls Tryz.prog 19 #[.string ⟨#[102]⟩, .string s] X (RPost i.F (FL i.l) X)) := Lib.hid (fun X => by
    rw [hF, hs]
    exact rlines_is _ s hsz X)
  have HDL : Hid (∀ X : World, Stp B M D w M D X → Calls Tryz.prog 12 #[.pointer (some ⟨p, 0, none⟩)] X (DLPost B M D X i)) := Lib.hid (fun X hX => dlines_any hX.all hp)
  have HDD : Hid (∀ X : World, Stp B M D w M D X → Calls Tryz.prog 23 #[.pointer (some ⟨p, 0, none⟩)] X (DDPost B M D X i)) := Lib.hid (fun X hX => ddiags_any hX.all hp)
  have hl5 : (FL i.l).lines.length ≤ 500000 := by omega
  clear h hp hF hs hlen hsz hst hFL
  go_enter Tryz.func8, Tryz.ntmps8
  go_wp2_with (first
    | (go_at_call 18; (with_reducible refine HT.out.mono ?_); rintro e w1 ⟨rfl, hs1⟩; have H1 := Lib.hid hs1; clear hs1)
    | (go_at_call 19; (with_reducible refine (HRL.out _).mono ?_); rintro e w2 ⟨la, n2, lc, da, m2, dc, rfl, hl2, hd2, hb2, -⟩; have H2 := Lib.hid (H1.out.trans (Stp.below H1.out.all hb2)); have HL2 := Lib.hid hl2; have HD2 := Lib.hid hd2; clear hl2 hd2 hb2)
    | (go_at_call 12; (with_reducible refine (HDL.out _ H2.out).mono ?_); rintro e w3 ⟨a3, n3, c3, rfl, -, hl3, hs3⟩; have H3 := Lib.hid (H2.out.trans hs3); have HL3 := Lib.hid hl3; have HM3 := Lib.hid (Stp.sm H2.out.all hs3); clear hl3 hs3)
    | (go_at_call 21; (with_reducible refine (flat6_any HL3.out hl5).mono ?_); rintro e w4 ⟨a4, n4, c4, rfl, hl4, hb4⟩; have H4 := Lib.hid (H3.out.trans (Stp.below H3.out.all hb4)); have HL4 := Lib.hid hl4; have HR4 := Lib.hid (LRow.at ((HL2.out.sm HM3.out (by decide)).sm (Sm.below hb4) (by decide))); have HM4 := Lib.hid (HM3.out.trans (Sm.below hb4)); clear hl4 hb4)
    | (go_at_call 20; (with_reducible refine (sameLines_any HL4.out HR4.out).mono ?_); rintro e w5 ⟨rfl, hb5⟩; have H5 := Lib.hid (H4.out.trans (Stp.below H4.out.all hb5)); have HM5 := Lib.hid (HM4.out.trans (Sm.below hb5)); clear hb5)
    | (go_at_call 23; (with_reducible refine (HDD.out _ H5.out).mono ?_); rintro e w6 ⟨a6, n6, c6, rfl, hd6, hs6⟩; have H6 := Lib.hid (H5.out.trans hs6); have HA6 := Lib.hid (DRow.at hd6); have HB6 := Lib.hid (DRow.at (HD2.out.sm (HM5.out.trans (Stp.sm H5.out.all hs6)))); clear hd6 hs6)
    | (go_at_call 22; (with_reducible refine (sameDiags_any HA6.out HB6.out).mono ?_); rintro e w7 ⟨rfl, hb7⟩; have H7 := Lib.hid (H6.out.trans (Stp.below H6.out.all hb7)); clear hb7))
  go_ret
  exact ⟨rfl, H7.out⟩

/-- A law's call, with documents that it leaves. -/
def AwPost (B : Nat) (M : Mp) (D : DT) (w : World) (e : Ending) (w' : World) : Prop := e = .returned (.bool true) ∧ ∃ M' D', Stp B M D w M' D' w'

def aw1 : DI := ⟨⟨#[102]⟩, [97, 10, 98, 10], fun n => n = 2⟩
def aw2 : DI := ⟨⟨#[102]⟩, [97, 10, 99, 98, 10], fun _ => True⟩
theorem aw1_lines : (FL [97, 10, 98, 10]).lines.length = 2 := by decide +kernel

set_option maxRecDepth 100000 in
set_option maxHeartbeats 3200000 in
theorem awake6_any {B : Nat} {M : Mp} {D : DT} {w : World} (h : All B M D w) : Calls Tryz.prog 6 #[] w (AwPost B M D w) := by
  have HN : Hid (Calls Tryz.prog 7 #[.string ⟨#[102]⟩, .string ⟨#[97, 10, 98, 10]⟩] w (NewPost B M D w aw1)) := Lib.hid (dnew_any h _ _ (by decide) (by decide) rfl rfl fun n hn => (work_new (by decide) hn).trans aw1_lines)
  have HIN : Hid (∀ (q : Nat) (M1 : Mp) (w1 : World), Stp B M D w M1 (D.set q aw1) w1 → Calls Tryz.prog 9 #[.pointer (some ⟨q, 0, none⟩), .int .i64 2, .string ⟨#[99]⟩] w1 (NewPost B M1 (D.set q aw1) w1 aw2)) := Lib.hid (fun q M1 w1 hst => dinsert_any hst.all (DT.set_same _ _ _) 2 ⟨#[99]⟩ (by decide) (by decide) rfl rfl fun _ _ _ _ _ => trivial)
  have HIA : Hid (∀ (q q2 : Nat) (M2 : Mp) (w2 : World), q ≠ q2 → Stp B M D w M2 ((D.set q aw1).set q2 aw2) w2 → Calls Tryz.prog 9 #[.pointer (some ⟨q, 0, none⟩), .int .i64 9, .string ⟨#[99]⟩] w2 (RefPost w2)) := Lib.hid (fun q q2 M2 w2 hne hst => dinsert_arg hst.all ((DT.set_other _ _ hne).trans (DT.set_same _ _ _)) 9 _ (by decide))
  have HWK : Hid (∀ (q q2 : Nat) (M2 : Mp) (w2 : World), q ≠ q2 → Stp B M D w M2 ((D.set q aw1).set q2 aw2) w2 → Calls Tryz.prog 11 #[.pointer (some ⟨q, 0, none⟩)] w2 fun e w' => e = .returned (.int .i64 2) ∧ Stp B M D w M2 ((D.set q aw1).set q2 aw2) w') := Lib.hid (fun q q2 M2 w2 hne hst => (dwork_any hst.all ((DT.set_other _ _ hne).trans (DT.set_same _ _ _))).mono (by
    rintro e w' ⟨n, rfl, hn, hs⟩
    have e2 : n = 2 := hn
    subst e2
    exact ⟨rfl, hst.trans hs⟩))
  have HI1 : Hid (∀ (q q2 : Nat) (M2 : Mp) (w2 : World), q ≠ q2 → Stp B M D w M2 ((D.set q aw1).set q2 aw2) w2 → Calls Tryz.prog 8 #[.pointer (some ⟨q, 0, none⟩), .string ⟨#[97, 10, 98, 10]⟩] w2 fun e w' => e = .returned (.bool true) ∧ Stp B M D w M2 ((D.set q aw1).set q2 aw2) w') := Lib.hid (fun q q2 M2 w2 hne hst => (is_any hst.all ((DT.set_other _ _ hne).trans (DT.set_same _ _ _)) rfl _ rfl).mono (by
    rintro e w' ⟨rfl, hs⟩
    exact ⟨rfl, hst.trans hs⟩))
  have HI2 : Hid (∀ (q q2 : Nat) (M2 : Mp) (w2 : World), Stp B M D w M2 ((D.set q aw1).set q2 aw2) w2 → Calls Tryz.prog 8 #[.pointer (some ⟨q2, 0, none⟩), .string ⟨#[97, 10, 99, 98, 10]⟩] w2 fun e w' => e = .returned (.bool true) ∧ Stp B M D w M2 ((D.set q aw1).set q2 aw2) w') := Lib.hid (fun q q2 M2 w2 hst => (is_any hst.all (DT.set_same _ _ _) rfl _ rfl).mono (by
    rintro e w' ⟨rfl, hs⟩
    exact ⟨rfl, hst.trans hs⟩))
  have HQ : Hid (∀ q1 q2 M1 w1, Stp B M D w M1 (D.set q1 aw1) w1 → w1.heap.size ≤ q2 → q1 ≠ q2) := Lib.hid (fun q1 q2 M1 w1 hst hle e => by
    have := hst.all.lt (DT.set_same D q1 aw1)
    omega)
  clear h
  go_enter Tryz.func6, Tryz.ntmps6
  go_wp2_with (first
    | (go_at_call 7; (with_reducible refine HN.out.mono ?_); rintro e w1 ⟨q1, M1, rfl, hq1, hs1⟩; have H1 := Lib.hid hs1; clear hs1)
    | (go_at_call 9; (with_reducible refine (HIN.out q1 M1 w1 H1.out).mono ?_); rintro e w2 ⟨q2, M2, rfl, hq2, hs2⟩; have HNE := Lib.hid (HQ.out q1 q2 M1 w1 H1.out hq2); have H2 := Lib.hid (H1.out.trans hs2); clear hs2)
    | (go_at_call 9; (with_reducible refine (HIA.out q1 q2 M2 w2 HNE.out H2.out).mono ?_); rintro e w' ⟨rfl, rfl⟩)
    | (go_at_call 9; (with_reducible refine (dinsert_nil 0 _ _).mono ?_); rintro e w' ⟨rfl, rfl⟩)
    | (go_at_call 11; (with_reducible refine (HWK.out q1 q2 M2 w2 HNE.out H2.out).mono ?_); rintro e w3 ⟨rfl, hs3⟩; have H3 := Lib.hid hs3; clear hs3)
    | (go_at_call 8; (with_reducible refine (HI2.out q1 q2 M2 w3 H3.out).mono ?_); rintro e w4 ⟨rfl, hs4⟩; have H4 := Lib.hid hs4; clear hs4)
    | (go_at_call 8; (with_reducible refine (HI1.out q1 q2 M2 w4 HNE.out H4.out).mono ?_); rintro e w5 ⟨rfl, hs5⟩; have H5 := Lib.hid hs5; clear hs5)
    | (go_at_call 11; (with_reducible refine (dwork_nil _).mono ?_); rintro e w' ⟨rfl, rfl⟩))
  go_ret
  exact ⟨rfl, M2, _, H5.out⟩

end Go.Proofs.YtpnboieppkjfnaaGreat

/-
  RelexUndo, walked.
-/
namespace Go.Proofs.YtpnboieppkjfnaaGreat
open Go.RowKit

/-- Round: somewhere from 0 to n - 1. -/
theorem round6_any (a : Int) (n : Nat) (h1 : 1 ≤ n) (hn : n ≤ 1000000) (w : World) :
    Calls Tryz.prog 13 #[.int .i64 a, .int .i64 (n : Int)] w fun e w' => (∃ k : Nat, k < n ∧ e = .returned (.int .i64 (k : Int))) ∧ w = w' := by
  obtain ⟨m, hm⟩ : ∃ m, a.tmod (n : Int) = m := ⟨_, rfl⟩
  have hm1 : m < n := by rw [← hm]; exact Int.tmod_lt_of_pos _ (by omega)
  have hm2 : -(n : Int) < m := by
    rw [← hm]
    have := Int.lt_tmod_of_pos a (b := (n : Int)) (by omega)
    omega
  have hn0 : ¬ ((n : Int) = 0) := by omega
  go_enter Tryz.func13, Tryz.ntmps13
  go_wp2
  go_ret
  have r1 := Int.emod_nonneg (m + n) hn0
  have r2 := Int.emod_lt_of_pos (m + n) (b := (n : Int)) (by omega)
  exact ⟨⟨((m + n) % (n : Int)).toNat, by omega, ret_nat (by omega)⟩, rfl⟩

theorem slice_to (s : ByteArray) (k : Nat) (h : k ≤ s.size) (w : World) : (Instr.slice 9 (.string s) none (some (.int .i64 (k : Int))) none).run Tryz.prog w = .ok (.string (s.extract 0 k)) w := by
  have a2 : (k : Int) ≤ (s.size : Int) := by omega
  have a4 : (0 : Int) ≤ (k : Int) := by omega
  simp [Instr.slice, run_underlying Tryz.underlying9, Instr.sliceBounds, run_sliceBound, *]
theorem slice_from (s : ByteArray) (k : Nat) (h : k ≤ s.size) (w : World) : (Instr.slice 9 (.string s) (some (.int .i64 (k : Int))) none none).run Tryz.prog w = .ok (.string (s.extract k s.size)) w := by
  have a2 : (k : Int) ≤ (s.size : Int) := by omega
  have a4 : (0 : Int) ≤ (k : Int) := by omega
  simp [Instr.slice, run_underlying Tryz.underlying9, Instr.sliceBounds, run_sliceBound, *]

theorem DT.set_old {B : Nat} {M : Mp} {D : DT} {w : World} (h : All B M D w) {p q : Nat} {i j : DI} (hp : D p = some i) (hq : w.heap.size ≤ q) : D.set q j p = some i := by
  rw [DT.set_other _ _ (by have := h.lt hp; omega)]
  exact hp

/-- The table that has nothing. -/
def M0 : Mp := fun _ => none
def D0 : DT := fun _ => none
theorem start_all (W : World) : All W.heap.size M0 D0 W :=
  ⟨⟨Nat.le_refl _, fun _ _ h => (by cases h), fun _ _ h => (by cases h), fun _ _ h => (by cases h)⟩, fun _ _ h => by cases h⟩
theorem Stp.ended {B : Nat} {M' : Mp} {D' : DT} {W W' : World} (s : Stp B M0 D0 W M' D' W') : Below W.heap.size W W' :=
  ⟨s.os, s.tape, s.output, s.size, fun k hk => s.block k hk rfl rfl⟩
def LawPost (W : World) (e : Ending) (w' : World) : Prop := e = .returned (.bool true) ∧ Below W.heap.size W w'
theorem aw_start (W : World) : Calls Tryz.prog 6 #[] W (LawPost W) := (awake6_any (start_all W)).mono (by
  rintro e w' ⟨rfl, M', D', s⟩
  exact ⟨rfl, s.ended⟩)

theorem undo_longA (s m : ByteArray) (z : Int) (W : World) (hs : 1500 < s.size) (hs2 : s.size ≤ maxLen) : Calls Tryz.prog 5 #[.string s, .int .i64 z, .string m] W (LawPost W) := by
  unfold maxLen at hs2
  have hli : (1500 : Int) < (s.size : Int) := by omega
  go_enter Tryz.func5, Tryz.ntmps5
  go_wp2_with (go_at_call 6; (with_reducible refine (aw_start _).mono ?_); rintro e w1 ⟨rfl, b1⟩)
  go_ret
  exact ⟨rfl, b1⟩
theorem undo_longB (s m : ByteArray) (z : Int) (W : World) (hs : ¬ 1500 < s.size) (hm : 500 < m.size) (hm2 : m.size ≤ maxLen) : Calls Tryz.prog 5 #[.string s, .int .i64 z, .string m] W (LawPost W) := by
  unfold maxLen at hm2
  have hli : ¬ (1500 : Int) < (s.size : Int) := by omega
  have hlm : (500 : Int) < (m.size : Int) := by omega
  go_enter Tryz.func5, Tryz.ntmps5
  go_wp2_with (go_at_call 6; (with_reducible refine (aw_start _).mono ?_); rintro e w1 ⟨rfl, b1⟩)
  go_ret
  exact ⟨rfl, b1⟩

/-- A document of a text, of which no more is said. -/
def di (l : List UInt8) : DI := ⟨⟨#[102]⟩, l, fun _ => True⟩

theorem FL_zero : (FL []).lines.length = 0 := rfl

theorem bapp (a b : ByteArray) : (a ++ b).data.toList = a.data.toList ++ b.data.toList := by simp [ByteArray.data_append]

theorem cut_back {s m : List UInt8} {k : Nat} (hk : k ≤ s.length) : s = (s.take k ++ (m ++ s.drop k)).take k ++ (s.take k ++ (m ++ s.drop k)).drop (k + m.length) := by
  have h : (s.take k).length = k := by rw [List.length_take]; omega
  rw [List.take_append_of_le_length (by omega), List.take_of_length_le (l := s.take k) (by omega), List.drop_append, List.drop_of_length_le (l := s.take k) (by omega), List.nil_append, h, Nat.add_sub_cancel_left, List.drop_append, List.drop_length, List.nil_append, Nat.sub_self, List.drop_zero, List.take_append_drop]

set_option maxRecDepth 100000 in
set_option maxHeartbeats 6400000 in
theorem undo_short (s m : ByteArray) (z : Int) (W : World) (hs : ¬ 1500 < s.size) (hm : ¬ 500 < m.size) : Calls Tryz.prog 5 #[.string s, .int .i64 z, .string m] W (LawPost W) := by
  have hli : ¬ (1500 : Int) < (s.size : Int) := by omega
  have hlm : ¬ (500 : Int) < (m.size : Int) := by omega
  have HS := Lib.hid (start_all W)
  go_enter Tryz.func5, Tryz.ntmps5
  go_wp2_with fail
  refine (dnew_any HS.out ⟨#[102]⟩ s (by decide) (by omega) (i := di s.data.toList) rfl rfl fun _ _ => trivial).mono ?_
  rintro e w1 ⟨q0, M1, rfl, hq0, hs1⟩
  have H1 := Lib.hid hs1
  have T0 : Hid (D0.set q0 (di s.data.toList) q0 = some (di s.data.toList)) := Lib.hid (DT.set_same _ _ _)
  clear hs1 hq0
  go_wp2_with fail
  refine (round6_any z (s.size + 1) (by omega) (by omega) w1).mono ?_
  rintro e w' ⟨⟨k, hk, rfl⟩, rfl⟩
  obtain ⟨A, hA⟩ : ∃ A, s.extract 0 k = A := ⟨_, rfl⟩
  obtain ⟨Z, hZ⟩ : ∃ Z, s.extract k s.size = Z := ⟨_, rfl⟩
  have hAl : A.data.toList = s.data.toList.take k := by rw [← hA, extract_take]
  have hZl : Z.data.toList = s.data.toList.drop k := by rw [← hZ, extract_drop]
  have hsl1 : ∀ w : World, (Instr.slice 9 (.string s) none (some (.int .i64 (k : Int))) none).run Tryz.prog w = .ok (.string A) w := fun w => hA ▸ slice_to s k (by omega) w
  have hsl2 : ∀ w : World, (Instr.slice 9 (.string s) (some (.int .i64 (k : Int))) none none).run Tryz.prog w = .ok (.string Z) w := fun w => hZ ▸ slice_from s k (by omega) w
  have hAs : A.size = k := by rw [← hA, ByteArray.size_extract]; omega
  have hZs : Z.size = s.size - k := by rw [← hZ, ByteArray.size_extract]; omega
  have hcat1 : (A.size + m.size > 9223372036854775807) = False := eq_false (by omega)
  have hcat2 : ((A ++ m).size + Z.size > 9223372036854775807) = False := eq_false (by rw [ByteArray.size_append]; omega)
  have hX : (A ++ m ++ Z).data.toList = s.data.toList.take k ++ (m.data.toList ++ s.data.toList.drop k) := by rw [bapp, bapp, hAl, hZl, List.append_assoc]
  obtain ⟨X, hXe⟩ : ∃ X, A ++ m ++ Z = X := ⟨_, rfl⟩
  rw [hXe] at hX
  have hXs : X.size = s.size + m.size := by rw [← hXe, ByteArray.size_append, ByteArray.size_append]; omega
  have hcat3 : (A.size + m.size + Z.size > 9223372036854775807) = False := eq_false (by omega)
  have hXl := hX
  have HXL := Lib.hid hX
  have HXE := Lib.hid hXe
  have HXS := Lib.hid hXs
  clear hA hZ hAl hZl hX hAs hZs hXe hXs
  go_wp2_with fail
  refine (dinsert_any H1.out.all T0.out k m (by show k ≤ s.data.toList.length; rw [len_byte]; omega) (by show s.data.toList.length + _ ≤ _; rw [len_byte]; omega) (i' := di X.data.toList) rfl HXL.out fun _ _ _ _ _ => trivial).mono ?_
  rintro e w2 ⟨q1, M2, rfl, hq1, hs2⟩
  have H2 := Lib.hid (H1.out.trans hs2)
  have T1 : Hid ((D0.set q0 (di s.data.toList)).set q1 (di X.data.toList) q1 = some (di X.data.toList)) := Lib.hid (DT.set_same _ _ _)
  have T10 : Hid ((D0.set q0 (di s.data.toList)).set q1 (di X.data.toList) q0 = some (di s.data.toList)) := Lib.hid (DT.set_old H1.out.all T0.out hq1)
  obtain ⟨D2, hD2⟩ : ∃ D2, (D0.set q0 (di s.data.toList)).set q1 (di X.data.toList) = D2 := ⟨_, rfl⟩
  rw [hD2] at H2 T1 T10
  clear hs2 hq1 hD2 hXl
  have HY : Hid (Calls Tryz.prog 10 #[.pointer (some ⟨q1, 0, none⟩), .int .i64 (k : Int), .int .i64 ((k : Int) + (m.size : Int))] w2 (NewPost W.heap.size M2 D2 w2 (di s.data.toList))) := Lib.hid (by
    have hy := ddelete_any H2.out.all T1.out k (k + m.size) (Nat.le_add_right _ _) (by show _ ≤ X.data.toList.length; rw [len_byte, HXS.out]; omega) (i' := di s.data.toList) rfl (by
      show s.data.toList = X.data.toList.take k ++ X.data.toList.drop (k + m.size)
      rw [HXL.out, ← len_byte m]
      exact cut_back (by rw [len_byte]; omega)) fun _ _ _ _ _ => trivial
    rw [show ((k + m.size : Nat) : Int) = (k : Int) + (m.size : Int) from by omega] at hy
    exact hy)
  go_wp2_with fail
  refine HY.out.mono ?_
  rintro e w3 ⟨q2, M3, rfl, hq2, hs3⟩
  have H3 := Lib.hid (H2.out.trans hs3)
  have T2 : Hid (D2.set q2 (di s.data.toList) q2 = some (di s.data.toList)) := Lib.hid (DT.set_same _ _ _)
  have T21 : Hid (D2.set q2 (di s.data.toList) q1 = some (di X.data.toList)) := Lib.hid (DT.set_old H2.out.all T1.out hq2)
  have T20 : Hid (D2.set q2 (di s.data.toList) q0 = some (di s.data.toList)) := Lib.hid (DT.set_old H2.out.all T10.out hq2)
  obtain ⟨D3, hD3⟩ : ∃ D3, D2.set q2 (di s.data.toList) = D3 := ⟨_, rfl⟩
  rw [hD3] at H3 T2 T21 T20
  have HID : Hid (∀ (q : Nat) (x : ByteArray) (Y : World), D3 q = some (di x.data.toList) → Stp W.heap.size M0 D0 W M3 D3 Y → Calls Tryz.prog 8 #[.pointer (some ⟨q, 0, none⟩), .string x] Y (fun e w' => e = .returned (.bool true) ∧ Stp W.heap.size M0 D0 W M3 D3 w')) := Lib.hid (fun q x Y hq hY => (is_any hY.all hq rfl x rfl).mono (by
    rintro e w' ⟨rfl, hs⟩
    exact ⟨rfl, hY.trans hs⟩))
  have HD := Lib.hid (H3.out.trans (Stp.below H3.out.all (Below.refl _ _).drew))
  clear hs3 hq2 hD3
  go_wp2
  go_region_held3 (fun _ => True) (exact trivial)
    (first
      | (go_at_call 8; (with_reducible refine (HID.out q2 s _ T2.out HD.out).mono ?_); rintro e w4 ⟨rfl, hs4⟩; have H4 := Lib.hid hs4; clear hs4)
      | (go_at_call 8; rw [HXE.out]; (with_reducible refine (HID.out q1 X _ T21.out H4.out).mono ?_); rintro e w5 ⟨rfl, hs5⟩; have H5 := Lib.hid hs5; clear hs5)
      | (go_at_call 8; (with_reducible refine (HID.out q0 s _ T20.out H5.out).mono ?_); rintro e w6 ⟨rfl, hs6⟩; have H6 := Lib.hid hs6; clear hs6))
  have HZ : Hid (Calls Tryz.prog 10 #[.pointer (some ⟨q1, 0, none⟩), .int .i64 0, .int .i64 ((s.size : Int) + (m.size : Int))] w6 (NewPost W.heap.size M3 D3 w6 (di []))) := Lib.hid (by
    have hy := ddelete_any H6.out.all T21.out 0 (s.size + m.size) (Nat.zero_le _) (by show _ ≤ X.data.toList.length; rw [len_byte, HXS.out]; omega) (i' := di []) rfl (by
      show [] = X.data.toList.take 0 ++ X.data.toList.drop (s.size + m.size)
      rw [List.drop_of_length_le (by rw [len_byte, HXS.out]; omega)]
      simp) fun _ _ _ _ _ => trivial
    rw [show ((s.size + m.size : Nat) : Int) = (s.size : Int) + (m.size : Int) from by omega] at hy
    exact hy)
  have HLZ : Hid (∀ (q : Nat) (M4 : Mp) (D4 : DT) (Y : World), D4 q = some (di []) → Stp W.heap.size M0 D0 W M4 D4 Y → Calls Tryz.prog 8 #[.pointer (some ⟨q, 0, none⟩), .string ⟨#[]⟩] Y (fun e w' => e = .returned (.bool true) ∧ Stp W.heap.size M0 D0 W M4 D4 w') ∧ Calls Tryz.prog 12 #[.pointer (some ⟨q, 0, none⟩)] Y (fun e w' => ∃ (a : Option Addr) (cap : Nat), e = .returned (.slice a 0 cap) ∧ Stp W.heap.size M0 D0 W M4 D4 w') ∧ Calls Tryz.prog 6 #[] Y (LawPost W)) := Lib.hid (fun q M4 D4 Y hq hY => ⟨(is_any hY.all hq rfl ⟨#[]⟩ rfl).mono (by
    rintro e w' ⟨rfl, hs⟩
    exact ⟨rfl, hY.trans hs⟩), (dlines_any hY.all hq).mono (by
    rintro e w' ⟨a, n, cap, rfl, hn, -, hs⟩
    have hn0 : n = 0 := hn
    subst hn0
    exact ⟨a, cap, rfl, hY.trans hs⟩), (awake6_any hY.all).mono (by
    rintro e w' ⟨rfl, M', D', hs⟩
    exact ⟨rfl, (hY.trans hs).ended⟩)⟩)
  clear hsl1 hsl2 hcat1 hcat2 hcat3
  have hsm : IntKind.i64.wrap ((s.size : Int) + (m.size : Int)) = (s.size : Int) + (m.size : Int) := IntWalk.i64_in _ (by omega)
  go_wp2_with fail
  refine HZ.out.mono ?_
  rintro e w7 ⟨q3, M4, rfl, hq3, hs7⟩
  have H7 := Lib.hid (H6.out.trans hs7)
  have T3 : Hid (D3.set q3 (di []) q3 = some (di [])) := Lib.hid (DT.set_same _ _ _)
  obtain ⟨D4, hD4⟩ : ∃ D4, D3.set q3 (di []) = D4 := ⟨_, rfl⟩
  rw [hD4] at H7 T3
  clear hs7 hq3 hD4
  go_wp2_with (first
    | (go_at_call 8; (with_reducible refine (HLZ.out q3 M4 D4 _ T3.out H7.out).1.mono ?_); rintro e w8 ⟨rfl, hs8⟩; have H8 := Lib.hid hs8; clear hs8)
    | (go_at_call 12; (with_reducible refine (HLZ.out q3 M4 D4 _ T3.out H8.out).2.1.mono ?_); rintro e w9 ⟨a9, c9, rfl, hs9⟩; have H9 := Lib.hid hs9; clear hs9)
    | (go_at_call 6; (with_reducible refine (HLZ.out q3 M4 D4 _ T3.out H9.out).2.2.mono ?_); rintro e w10 ⟨rfl, hb10⟩; have HB := Lib.hid hb10; clear hb10))
  go_ret
  exact ⟨rfl, HB.out⟩

theorem law_undo (s : ByteArray) (z : Int) (m : ByteArray) (W : World) (hs : s.size ≤ maxLen) (hm : m.size ≤ maxLen) : Calls Tryz.prog 5 #[.string s, .int .i64 z, .string m] W fun e w' => e = .returned (.bool true) ∧ Below W.heap.size W w' := by
  by_cases h1 : 1500 < s.size
  · exact undo_longA s m z W h1 hs
  · by_cases h2 : 500 < m.size
    · exact undo_longB s m z W h1 h2 hm
    · exact undo_short s m z W h1 h2

end Go.Proofs.YtpnboieppkjfnaaGreat
