/-
  Texts of the proof, put together: ReT, PhLift.
-/
import Derived.Test.YtpnboieppkjfnaaGreatG47
import Derived.Test.YtpnboieppkjfnaaGreatG11
import Derived.ProofKit
import Derived.OpenShut
import Derived.ChangeMaps5
import Derived.Below

/-
  RelexLocal, walked.
-/
namespace Go.Proofs.YtpnboieppkjfnaaGreat
open Go.RowKit

set_option maxRecDepth 100000 in
theorem local_void (z0 z2 z4 : Int) (a m : ByteArray) (W : World) (ha : a.size ≤ maxLen) (hm : m.size ≤ maxLen)
    (h : z0 < 1 ∨ (¬ z0 < 1 ∧ 200 < z0) ∨ (¬ z0 < 1 ∧ ¬ 200 < z0 ∧ 30 < a.size) ∨ (¬ z0 < 1 ∧ ¬ 200 < z0 ∧ ¬ 30 < a.size ∧ 100 < m.size) ∨ (¬ z0 < 1 ∧ ¬ 200 < z0 ∧ ¬ 30 < a.size ∧ ¬ 100 < m.size ∧ z4 < 0) ∨ (¬ z0 < 1 ∧ ¬ 200 < z0 ∧ ¬ 30 < a.size ∧ ¬ 100 < m.size ∧ ¬ z4 < 0 ∧ 200 < z4)) :
    Calls Tryz.prog 4 #[.int .i64 z0, .string a, .int .i64 z2, .string m, .int .i64 z4] W (LawPost W) := by
  unfold maxLen at ha hm
  have hA : 30 < a.size → (30 : Int) < (a.size : Int) := fun h => by omega
  have hA2 : ¬ 30 < a.size → ¬ (30 : Int) < (a.size : Int) := fun h => by omega
  have hM : 100 < m.size → (100 : Int) < (m.size : Int) := fun h => by omega
  have hM2 : ¬ 100 < m.size → ¬ (100 : Int) < (m.size : Int) := fun h => by omega
  rcases h with h | ⟨h1, h⟩ | ⟨h1, h2, h⟩ | ⟨h1, h2, h3, h⟩ | ⟨h1, h2, h3, h4, h⟩ | ⟨h1, h2, h3, h4, h5, h⟩
  · clear hA hA2 hM hM2
    go_enter Tryz.func4, Tryz.ntmps4
    go_wp2_with (go_at_call 6; (with_reducible refine (aw_start _).mono ?_); rintro e w1 ⟨rfl, b1⟩)
    go_ret
    exact ⟨rfl, b1⟩
  · clear hA hA2 hM hM2
    go_enter Tryz.func4, Tryz.ntmps4
    go_wp2_with (go_at_call 6; (with_reducible refine (aw_start _).mono ?_); rintro e w1 ⟨rfl, b1⟩)
    go_ret
    exact ⟨rfl, b1⟩
  · have g := hA h
    clear hA hA2 hM hM2
    go_enter Tryz.func4, Tryz.ntmps4
    go_wp2_with (go_at_call 6; (with_reducible refine (aw_start _).mono ?_); rintro e w1 ⟨rfl, b1⟩)
    go_ret
    exact ⟨rfl, b1⟩
  · have g := hM h
    have g3 := hA2 h3
    clear hA hA2 hM hM2
    go_enter Tryz.func4, Tryz.ntmps4
    go_wp2_with (go_at_call 6; (with_reducible refine (aw_start _).mono ?_); rintro e w1 ⟨rfl, b1⟩)
    go_ret
    exact ⟨rfl, b1⟩
  · have g4 := hM2 h4
    have g3 := hA2 h3
    clear hA hA2 hM hM2
    go_enter Tryz.func4, Tryz.ntmps4
    go_wp2_with (go_at_call 6; (with_reducible refine (aw_start _).mono ?_); rintro e w1 ⟨rfl, b1⟩)
    go_ret
    exact ⟨rfl, b1⟩
  · have g4 := hM2 h4
    have g3 := hA2 h3
    clear hA hA2 hM hM2
    go_enter Tryz.func4, Tryz.ntmps4
    go_wp2_with (go_at_call 6; (with_reducible refine (aw_start _).mono ?_); rintro e w1 ⟨rfl, b1⟩)
    go_ret
    exact ⟨rfl, b1⟩

def dq (l : List UInt8) (Q : Nat → Prop) : DI := ⟨⟨#[102]⟩, l, Q⟩
def AllL (l : List UInt8) (n : Nat) : Prop := n = (FL l).lines.length
def FewL (s t : List UInt8) (c n : Nat) : Prop := Pn s → Pn t → n ≤ c + 3

theorem few_of {s t ins : List UInt8} {fr te : Nat} (hft : fr ≤ te) (hte : te ≤ s.length) (hs : s.length ≤ 65536) (ht : t.length ≤ 65536) (hi : t = s.take fr ++ (ins ++ s.drop te)) : ∀ Ts, Pcs Ts → Ts.flatten = s → ∀ n, WorkOk Ts fr te t n → FewL s t (ins.count 10) n := by
  rintro Ts hp rfl n hw h1 h2
  exact work_plain ⟨hp, hft, hte, ⟨ins, hi⟩, hs, ht⟩ hi h1 h2 hw

theorem tch_in {s ins r : List UInt8} (h : Pn (s ++ (ins ++ r))) : ins.count 10 ≤ tchN (FL (s ++ (ins ++ r))).lines s.length (s.length + ins.length) := by
  have h1 := touched_ge h s.length (s.length + ins.length)
  have e : ((s ++ (ins ++ r)).take (s.length + ins.length)).drop s.length = ins := by
    rw [← List.append_assoc, ← List.length_append, List.take_left' rfl, List.drop_left' rfl]
  rwa [e] at h1

set_option maxRecDepth 100000 in
set_option maxHeartbeats 6400000 in
theorem local_short (n : Nat) (z2 : Int) (o : Nat) (a m : ByteArray) (W : World) (hn1 : 1 ≤ n) (hn2 : n ≤ 200) (ha : ¬ 30 < a.size) (hm : ¬ 100 < m.size) (ho : o ≤ 200) :
    Calls Tryz.prog 4 #[.int .i64 (n : Int), .string a, .int .i64 z2, .string m, .int .i64 (o : Int)] W (LawPost W) := by
  have hai : ¬ (30 : Int) < (a.size : Int) := by omega
  have hmi : ¬ (100 : Int) < (m.size : Int) := by omega
  have hni1 : ¬ (n : Int) < 1 := by omega
  have hni2 : ¬ (200 : Int) < (n : Int) := by omega
  have hoi1 : ¬ (o : Int) < 0 := by omega
  have hoi2 : ¬ (200 : Int) < (o : Int) := by omega
  have HS := Lib.hid (start_all W)
  go_enter Tryz.func4, Tryz.ntmps4
  go_wp2
  go_loop [11, 12] (fun sv i => ∃ (k : Nat) (S : ByteArray), i = .int .i64 (k : Int) ∧ k ≤ n ∧ sv = .string S ∧ S.size ≤ k * 31) (fun _ i => n - (intOf i).toNat)
  case atStart => exact ⟨0, ⟨#[]⟩, rfl, Nat.zero_le _, rfl, Nat.le_refl _⟩
  case round =>
    obtain ⟨k, s, rfl, hk, rfl, hsz⟩ := hrel
    have hs6 : s.size ≤ 6200 := by omega
    by_cases hlt : k < n
    · have hki : (k : Int) < (n : Int) := by omega
      have hcat1 : (s.size + a.size > 9223372036854775807) = False := eq_false (by omega)
      have hcat2 : ((s ++ a).size + 1 > 9223372036854775807) = False := eq_false (by rw [ByteArray.size_append]; omega)
      have hcat3 : (s.size + a.size + 1 > 9223372036854775807) = False := eq_false (by omega)
      go_wp2
      go_round
      case rel => exact ⟨k + 1, _, by go_num, hlt, rfl, by rw [ByteArray.size_append, ByteArray.size_append]; show s.size + a.size + 1 ≤ _; omega⟩
      case measure => simp [intOf]; omega
    · have hki : ¬ (k : Int) < (n : Int) := by omega
      clear hsz
      go_wp2_with fail
      refine (dnew_any HS.out ⟨#[102]⟩ s (by decide) (by omega) (i := dq s.data.toList (AllL s.data.toList)) rfl rfl fun n hn => work_new (by show s.data.toList.length ≤ _; rw [len_byte]; omega) hn).mono ?_
      rintro e w1 ⟨q0, M1, rfl, hq0, hs1⟩
      have H1 := Lib.hid hs1
      have T0 : Hid (D0.set q0 (dq s.data.toList (AllL s.data.toList)) q0 = some (dq s.data.toList (AllL s.data.toList))) := Lib.hid (DT.set_same _ _ _)
      obtain ⟨D1, hD1⟩ : ∃ D1, D0.set q0 (dq s.data.toList (AllL s.data.toList)) = D1 := ⟨_, rfl⟩
      rw [hD1] at H1 T0
      clear hs1 hq0 hD1
      obtain ⟨L0, hL0⟩ : ∃ L0, (FL s.data.toList).lines.length = L0 := ⟨_, rfl⟩
      have HWL : Hid (∀ Y : World, Stp W.heap.size M0 D0 W M1 D1 Y → Calls Tryz.prog 11 #[.pointer (some ⟨q0, 0, none⟩)] Y (fun e w' => e = .returned (.int .i64 (L0 : Int)) ∧ Stp W.heap.size M0 D0 W M1 D1 w') ∧ Calls Tryz.prog 12 #[.pointer (some ⟨q0, 0, none⟩)] Y (fun e w' => ∃ (a : Option Addr) (cap : Nat), e = .returned (.slice a L0 cap) ∧ Stp W.heap.size M0 D0 W M1 D1 w')) := Lib.hid (fun Y hY => ⟨(dwork_any hY.all T0.out).mono (by
        rintro e w' ⟨n, rfl, hn, hs⟩
        have hn2 : n = L0 := hL0 ▸ hn
        subst hn2
        exact ⟨rfl, hY.trans hs⟩), (dlines_any hY.all T0.out).mono (by
        rintro e w' ⟨a, n, cap, rfl, hn, -, hs⟩
        have hn2 : n = L0 := hL0 ▸ hn
        subst hn2
        exact ⟨a, cap, rfl, hY.trans hs⟩)⟩)
      clear hL0
      go_wp2_with (first
        | (go_at_call 11; (with_reducible refine (HWL.out _ H1.out).1.mono ?_); rintro e w2 ⟨rfl, hs2⟩; have H2 := Lib.hid hs2; clear hs2)
        | (go_at_call 12; (with_reducible refine (HWL.out _ H2.out).2.mono ?_); rintro e w3 ⟨a3, c3, rfl, hs3⟩; have H3 := Lib.hid hs3; clear hs3)
        | (go_at_call 13; refine (round6_any z2 (s.size + 1) (by omega) (by omega) _).mono ?_; rintro e w' ⟨⟨j, hj, rfl⟩, rfl⟩))
      obtain ⟨A, hA⟩ : ∃ A, s.extract 0 j = A := ⟨_, rfl⟩
      obtain ⟨Z, hZ⟩ : ∃ Z, s.extract j s.size = Z := ⟨_, rfl⟩
      have hAl : A.data.toList = s.data.toList.take j := by rw [← hA, extract_take]
      have hZl : Z.data.toList = s.data.toList.drop j := by rw [← hZ, extract_drop]
      have hsl1 : ∀ w : World, (Instr.slice 9 (.string s) none (some (.int .i64 (j : Int))) none).run Tryz.prog w = .ok (.string A) w := fun w => hA ▸ slice_to s j (by omega) w
      have hsl2 : ∀ w : World, (Instr.slice 9 (.string s) (some (.int .i64 (j : Int))) none none).run Tryz.prog w = .ok (.string Z) w := fun w => hZ ▸ slice_from s j (by omega) w
      have hAs : A.size = j := by rw [← hA, ByteArray.size_extract]; omega
      have hZs : Z.size = s.size - j := by rw [← hZ, ByteArray.size_extract]; omega
      have hcat1 : (A.size + m.size > 9223372036854775807) = False := eq_false (by omega)
      have hcat2 : ((A ++ m).size + Z.size > 9223372036854775807) = False := eq_false (by rw [ByteArray.size_append]; omega)
      have hcat3 : (A.size + m.size + Z.size > 9223372036854775807) = False := eq_false (by omega)
      have hX : (A ++ m ++ Z).data.toList = s.data.toList.take j ++ (m.data.toList ++ s.data.toList.drop j) := by rw [bapp, bapp, hAl, hZl, List.append_assoc]
      obtain ⟨X, hXe⟩ : ∃ X, A ++ m ++ Z = X := ⟨_, rfl⟩
      rw [hXe] at hX
      have hXs : X.size = s.size + m.size := by rw [← hXe, ByteArray.size_append, ByteArray.size_append]; omega
      have HXL := Lib.hid hX
      have HXE := Lib.hid hXe
      have HXS := Lib.hid hXs
      have hX7 : X.size ≤ 7000 := by omega
      clear hA hZ hAl hZl hX hAs hZs hXe hXs
      have HI : Hid (Calls Tryz.prog 9 #[.pointer (some ⟨q0, 0, none⟩), .int .i64 (j : Int), .string m] w3 (NewPost W.heap.size M1 D1 w3 (dq X.data.toList (FewL s.data.toList X.data.toList (m.data.toList.count 10))))) := Lib.hid (by
        have hsl : s.data.toList.length = s.size := len_byte s
        have hxl : X.data.toList.length = X.size := len_byte X
        exact dinsert_any H3.out.all T0.out j m (by show j ≤ s.data.toList.length; omega) (by show s.data.toList.length + _ ≤ _; omega) rfl HXL.out (few_of (s := s.data.toList) (t := X.data.toList) (ins := m.data.toList) (Nat.le_refl _) (by omega) (by omega) (by omega) HXL.out))
      go_wp2_with fail
      refine HI.out.mono ?_
      rintro e w4 ⟨q1, M2, rfl, hq1, hs4⟩
      have H4 := Lib.hid (H3.out.trans hs4)
      obtain ⟨iX, hiX⟩ : ∃ iX, dq X.data.toList (FewL s.data.toList X.data.toList (m.data.toList.count 10)) = iX := ⟨_, rfl⟩
      rw [hiX] at H4
      have HIX := Lib.hid hiX
      have T1 : Hid (D1.set q1 iX q1 = some iX) := Lib.hid (DT.set_same _ _ _)
      obtain ⟨D2, hD2⟩ : ∃ D2, D1.set q1 iX = D2 := ⟨_, rfl⟩
      rw [hD2] at H4 T1
      clear hs4 hq1 hD2 hiX
      go_wp2
      go_region_held3 (fun _ => True) (exact trivial) (fail)
      rw [HXE.out]
      obtain ⟨w5, hw5⟩ : ∃ w5, w4.drew = w5 := ⟨_, rfl⟩
      have H5 : Hid (Stp W.heap.size M0 D0 W M2 D2 w5) := Lib.hid (by rw [← hw5]; exact H4.out.trans (Stp.below H4.out.all (Below.refl _ _).drew))
      rw [hw5]
      obtain ⟨e, he⟩ : ∃ e, min (j + o) X.size = e := ⟨_, rfl⟩
      have hmin : min ((j : Int) + (o : Int)) (X.size : Int) = (e : Int) := by omega
      have hje : j ≤ e := by have := HXS.out; omega
      have heX : e ≤ X.size := by omega
      have hwr : IntKind.i64.wrap ((j : Int) + (o : Int)) = (j : Int) + (o : Int) := IntWalk.i64_in _ (by omega)
      obtain ⟨A2, hA⟩ : ∃ A, X.extract 0 j = A := ⟨_, rfl⟩
      obtain ⟨Z2, hZ⟩ : ∃ Z, X.extract e X.size = Z := ⟨_, rfl⟩
      have hAl : A2.data.toList = X.data.toList.take j := by rw [← hA, extract_take]
      have hZl : Z2.data.toList = X.data.toList.drop e := by rw [← hZ, extract_drop]
      have hsl3 : ∀ w : World, (Instr.slice 9 (.string X) none (some (.int .i64 (j : Int))) none).run Tryz.prog w = .ok (.string A2) w := fun w => hA ▸ slice_to X j (by omega) w
      have hsl4 : ∀ w : World, (Instr.slice 9 (.string X) (some (.int .i64 (e : Int))) none none).run Tryz.prog w = .ok (.string Z2) w := fun w => hZ ▸ slice_from X e (by omega) w
      have hAs : A2.size = j := by rw [← hA, ByteArray.size_extract]; omega
      have hZs : Z2.size = X.size - e := by rw [← hZ, ByteArray.size_extract]; omega
      have hcat4 : (A2.size + Z2.size > 9223372036854775807) = False := eq_false (by omega)
      have hU : (A2 ++ Z2).data.toList = X.data.toList.take j ++ ([] ++ X.data.toList.drop e) := by rw [bapp, hAl, hZl, List.nil_append]
      obtain ⟨U, hUe⟩ : ∃ U, A2 ++ Z2 = U := ⟨_, rfl⟩
      rw [hUe] at hU
      have hU7 : U.size ≤ 7000 := by rw [← hUe, ByteArray.size_append]; omega
      have HUL := Lib.hid hU
      have HUE := Lib.hid hUe
      clear hw5 he hA hZ hAl hZl hU hAs hZs hUe hsl1 hsl2 hcat1 hcat2 hcat3
      have HDE : Hid (Calls Tryz.prog 10 #[.pointer (some ⟨q1, 0, none⟩), .int .i64 (j : Int), .int .i64 (e : Int)] w5 (NewPost W.heap.size M2 D2 w5 (dq U.data.toList (FewL X.data.toList U.data.toList 0)))) := Lib.hid (by
        have hxl : X.data.toList.length = X.size := len_byte X
        have hul : U.data.toList.length = U.size := len_byte U
        have hix : iX.l = X.data.toList := by rw [← HIX.out]; rfl
        exact ddelete_any H5.out.all T1.out j e hje (by rw [hix]; omega) (by rw [← HIX.out]; rfl) (by rw [hix]; exact HUL.out) (by
          rw [hix]
          exact few_of (s := X.data.toList) (t := U.data.toList) (ins := []) hje (by omega) (by omega) (by omega) HUL.out))
      go_wp2_with fail
      refine HDE.out.mono ?_
      rintro ed w6 ⟨q2, M3, rfl, hq2, hs6⟩
      have H6 := Lib.hid (H5.out.trans hs6)
      obtain ⟨iU, hiU⟩ : ∃ iU, dq U.data.toList (FewL X.data.toList U.data.toList 0) = iU := ⟨_, rfl⟩
      rw [hiU] at H6
      have HIU := Lib.hid hiU
      have T2 : Hid (D2.set q2 iU q2 = some iU) := Lib.hid (DT.set_same _ _ _)
      have T21 : Hid (D2.set q2 iU q1 = some iX) := Lib.hid (DT.set_old H5.out.all T1.out hq2)
      obtain ⟨D3, hD3⟩ : ∃ D3, D2.set q2 iU = D3 := ⟨_, rfl⟩
      rw [hD3] at H6 T2 T21
      clear hs6 hq2 hD3 hiU
      go_wp2
      go_region_held3 (fun _ => True) (exact trivial) (fail)
      rw [HUE.out]
      obtain ⟨w7, hw7⟩ : ∃ w7, w6.drew = w7 := ⟨_, rfl⟩
      have H7 : Hid (Stp W.heap.size M0 D0 W M3 D3 w7) := Lib.hid (by rw [← hw7]; exact H6.out.trans (Stp.below H6.out.all (Below.refl _ _).drew))
      rw [hw7]
      clear hw7 hsl3 hsl4 hcat4
      have HID : Hid (∀ (q : Nat) (x : ByteArray) (Q : Nat → Prop) (iq : DI) (Y : World), dq x.data.toList Q = iq → D3 q = some iq → Stp W.heap.size M0 D0 W M3 D3 Y → Calls Tryz.prog 8 #[.pointer (some ⟨q, 0, none⟩), .string x] Y (fun e w' => e = .returned (.bool true) ∧ Stp W.heap.size M0 D0 W M3 D3 w')) := Lib.hid (by
        rintro q x Q iq Y rfl hq hY
        exact (is_any hY.all hq rfl x rfl).mono (by
          rintro e w' ⟨rfl, hs⟩
          exact ⟨rfl, hY.trans hs⟩))
      have HAW : Hid (∀ Y : World, Stp W.heap.size M0 D0 W M3 D3 Y → Calls Tryz.prog 6 #[] Y (LawPost W)) := Lib.hid (fun Y hY => (awake6_any hY.all).mono (by
        rintro e w' ⟨rfl, M', D', hs⟩
        exact ⟨rfl, (hY.trans hs).ended⟩))
      have HWX : Hid (∀ Y : World, Stp W.heap.size M0 D0 W M3 D3 Y → Calls Tryz.prog 11 #[.pointer (some ⟨q1, 0, none⟩)] Y (fun e w' => ∃ n : Nat, e = .returned (.int .i64 (n : Int)) ∧ FewL s.data.toList X.data.toList (m.data.toList.count 10) n ∧ Stp W.heap.size M0 D0 W M3 D3 w')) := Lib.hid (fun Y hY => (dwork_any hY.all T21.out).mono (by
        rintro e w' ⟨n, rfl, hn, hs⟩
        rw [← HIX.out] at hn
        exact ⟨n, rfl, hn, hY.trans hs⟩))
      have HWU : Hid (∀ Y : World, Stp W.heap.size M0 D0 W M3 D3 Y → Calls Tryz.prog 11 #[.pointer (some ⟨q2, 0, none⟩)] Y (fun e w' => ∃ n : Nat, e = .returned (.int .i64 (n : Int)) ∧ FewL X.data.toList U.data.toList 0 n ∧ Stp W.heap.size M0 D0 W M3 D3 w')) := Lib.hid (fun Y hY => (dwork_any hY.all T2.out).mono (by
        rintro e w' ⟨n, rfl, hn, hs⟩
        rw [← HIU.out] at hn
        exact ⟨n, rfl, hn, hY.trans hs⟩))
      obtain ⟨c1, hc1⟩ : ∃ c1, tchN (FL X.data.toList).lines j (j + m.size) = c1 := ⟨_, rfl⟩
      obtain ⟨c2, hc2⟩ : ∃ c2, tchN (FL U.data.toList).lines j j = c2 := ⟨_, rfl⟩
      have hc1b : c1 ≤ 70000 := by rw [← hc1]; exact Nat.le_trans (tch_le _ _ _) (FL_many (by rw [len_byte]; omega))
      have hc2b : c2 ≤ 70000 := by rw [← hc2]; exact Nat.le_trans (tch_le _ _ _) (FL_many (by rw [len_byte]; omega))
      have HC1 : Hid (Pn X.data.toList → m.data.toList.count 10 ≤ c1) := Lib.hid (fun h => by
        have h1 := HXL.out
        rw [h1] at h
        have h2 := tch_in h
        rw [← h1, List.length_take, len_byte, Nat.min_eq_left (by omega), len_byte, hc1] at h2
        exact h2)
      have HTX : Hid (∀ Y : World, Calls Tryz.prog 15 #[.string X, .int .i64 (j : Int), .int .i64 ((j : Int) + (m.size : Int))] Y (NatBel c1 Y)) := Lib.hid (fun Y => by
        have h := touched6_any X (by omega) j (j + m.size) Y
        rw [hc1, Int.natCast_add] at h
        exact h)
      have HTU : Hid (∀ Y : World, Calls Tryz.prog 15 #[.string U, .int .i64 (j : Int), .int .i64 (j : Int)] Y (NatBel c2 Y)) := Lib.hid (fun Y => by
        have h := touched6_any U (by omega) j j Y
        rw [hc2] at h
        exact h)
      have hw1 : IntKind.i64.wrap (3 + (c1 : Int)) = 3 + (c1 : Int) := IntWalk.i64_in _ (by omega)
      have hw2 : IntKind.i64.wrap (3 + (c2 : Int)) = 3 + (c2 : Int) := IntWalk.i64_in _ (by omega)
      have hw3 : IntKind.i64.wrap ((j : Int) + (m.size : Int)) = (j : Int) + (m.size : Int) := IntWalk.i64_in _ (by omega)
      clear hc1 hc2
      go_wp2_with (first
        | (go_at_call 8; (with_reducible refine (HID.out q1 X _ iX _ HIX.out T21.out H7.out).mono ?_); rintro ee w8 ⟨rfl, hs8⟩; have H8 := Lib.hid hs8; clear hs8)
        | (go_at_call 8; (with_reducible refine (HID.out q2 U _ iU _ HIU.out T2.out H8.out).mono ?_); rintro ee w9 ⟨rfl, hs9⟩; have H9 := Lib.hid hs9; clear hs9))
      refine (plain6_any s (by omega) _).mono ?_
      rintro ee w' ⟨b1, rfl, hb1, rfl⟩
      have HP1 := Lib.hid hb1
      clear hb1
      cases b1
      · go_wp2_with (go_at_call 6; (with_reducible refine (HAW.out _ H9.out).mono ?_); rintro ee w10 ⟨rfl, hb10⟩)
        go_ret
        exact ⟨rfl, hb10⟩
      have HQ1 : Hid (Pn s.data.toList) := Lib.hid (HP1.out rfl)
      clear HP1
      go_wp2_with fail
      refine (plain6_any X (by omega) _).mono ?_
      rintro ee w' ⟨b2, rfl, hb2, rfl⟩
      have HP2 := Lib.hid hb2
      clear hb2
      cases b2
      · go_wp2_with (go_at_call 6; (with_reducible refine (HAW.out _ H9.out).mono ?_); rintro ee w10 ⟨rfl, hb10⟩)
        go_ret
        exact ⟨rfl, hb10⟩
      have HQ2 : Hid (Pn X.data.toList) := Lib.hid (HP2.out rfl)
      clear HP2
      go_wp2_with fail
      refine (plain6_any U (by omega) _).mono ?_
      rintro ee w' ⟨b3, rfl, hb3, rfl⟩
      have HP3 := Lib.hid hb3
      clear hb3
      cases b3
      · go_wp2_with (go_at_call 6; (with_reducible refine (HAW.out _ H9.out).mono ?_); rintro ee w10 ⟨rfl, hb10⟩)
        go_ret
        exact ⟨rfl, hb10⟩
      have HQ3 : Hid (Pn U.data.toList) := Lib.hid (HP3.out rfl)
      clear HP3
      go_wp2_with (first
        | (go_at_call 11; (with_reducible refine (HWX.out _ H9.out).mono ?_); rintro ee w10 ⟨n1, rfl, hn1, hs10⟩; have H10 := Lib.hid hs10; have hle1 : (n1 : Int) ≤ 3 + (c1 : Int) := (by have h1 := hn1 HQ1.out HQ2.out; have h2 := HC1.out HQ2.out; omega); clear hn1 hs10)
        | (go_at_call 15; (with_reducible refine (HTX.out _).mono ?_); rintro ee w11 ⟨rfl, hb11⟩; have H11 := Lib.hid (H10.out.trans (Stp.below H10.out.all hb11)); clear hb11)
        | (go_at_call 11; (with_reducible refine (HWU.out _ H11.out).mono ?_); rintro ee w12 ⟨n2, rfl, hn2, hs12⟩; have H12 := Lib.hid hs12; have hle2 : (n2 : Int) ≤ 3 + (c2 : Int) := (by have h1 := hn2 HQ2.out HQ3.out; omega); clear hn2 hs12)
        | (go_at_call 15; (with_reducible refine (HTU.out _).mono ?_); rintro ee w13 ⟨rfl, hb13⟩; have H13 := Lib.hid (H12.out.trans (Stp.below H12.out.all hb13)); clear hb13)
        | (go_at_call 6; (with_reducible refine (HAW.out _ H13.out).mono ?_); rintro ee w14 ⟨rfl, hb14⟩; have HB := Lib.hid hb14; clear hb14))
      go_ret
      exact ⟨rfl, HB.out⟩

theorem law_local (z0 : Int) (a : ByteArray) (z2 : Int) (m : ByteArray) (z4 : Int) (W : World) (ha : a.size ≤ maxLen) (hm : m.size ≤ maxLen) : Calls Tryz.prog 4 #[.int .i64 z0, .string a, .int .i64 z2, .string m, .int .i64 z4] W fun e w' => e = .returned (.bool true) ∧ Below W.heap.size W w' := by
  by_cases h1 : z0 < 1
  · exact local_void z0 z2 z4 a m W ha hm (.inl h1)
  by_cases h2 : 200 < z0
  · exact local_void z0 z2 z4 a m W ha hm (.inr (.inl ⟨h1, h2⟩))
  by_cases h3 : 30 < a.size
  · exact local_void z0 z2 z4 a m W ha hm (.inr (.inr (.inl ⟨h1, h2, h3⟩)))
  by_cases h4 : 100 < m.size
  · exact local_void z0 z2 z4 a m W ha hm (.inr (.inr (.inr (.inl ⟨h1, h2, h3, h4⟩))))
  by_cases h5 : z4 < 0
  · exact local_void z0 z2 z4 a m W ha hm (.inr (.inr (.inr (.inr (.inl ⟨h1, h2, h3, h4, h5⟩)))))
  by_cases h6 : 200 < z4
  · exact local_void z0 z2 z4 a m W ha hm (.inr (.inr (.inr (.inr (.inr ⟨h1, h2, h3, h4, h5, h6⟩)))))
  obtain ⟨n, rfl⟩ : ∃ n : Nat, z0 = (n : Int) := ⟨z0.toNat, by omega⟩
  obtain ⟨o, rfl⟩ : ∃ o : Nat, z4 = (o : Int) := ⟨z4.toNat, by omega⟩
  exact local_short n z2 o a m W (by omega) (by omega) h3 h4 (by omega)

end Go.Proofs.YtpnboieppkjfnaaGreat

/-
  From a law's walk to its statement: the arguments are no memory, what the call makes is new.
-/
namespace Go.Proofs.YtpnboieppkjfnaaGreat
open Go.ChangeShapes Go.WideShapes Go.ChangeAt Go.RowKit

theorem lift_own : ownKnob Tryz.prog.godebug = none := by kernel_rfl

/-- The post of a law whose arguments lead to no memory, and that says nothing of reading again. -/
theorem post_new {H : Type} {enc : TypeId × Value → H} {P : Program} {f : Func} {s : ChangeSpec} {apart fresh handsOn : Bool} {W W' : World} {args : Array Value} {v : Value} {ds gs : List (DataW H)}
    (hW : DataW.Whole enc P f.params.toList s.vars apart W args.toList ds gs [])
    (hres : ∀ (b : Nat) (sp : Nat → Bool) (hd : Bool), DataW.TrodAll enc P W' b sp hd f.resultTypes.toList (v.resultList f.resultTypes.size) (s.fn H (ds ++ gs)).results [])
    (hargs : ∀ sp : Nat → Bool, DataW.TrodAll enc P W' 0 sp true f.params.toList args.toList (s.fn H (ds ++ gs)).args [])
    (hvars : ∀ sp : Nat → Bool, DataW.TrodVars enc P W' sp s.vars (s.fn H (ds ++ gs)).vars []) (hb : Below W.heap.size W W') :
    s.post enc P f apart fresh handsOn false W args v W' :=
  ⟨ds, gs, [], [], [], [], hW, hres _ _ _, hargs _, hvars _, hb.frame _, fun h => by cases h⟩

theorem byte_of {n : Int} (h : (Lit.int .u8 n).wf = true) : ∃ c : UInt8, n = (c.toNat : Int) := by
  have h1 : 0 ≤ n ∧ n ≤ 255 := by
    simp only [Lit.wf, Bool.and_eq_true, decide_eq_true_eq] at h
    exact h
  refine ⟨UInt8.ofNat n.toNat, ?_⟩
  simp
  omega

theorem int_fits {n : Int} (h : (Lit.int .i64 n).wf = true) : -9223372036854775808 ≤ n ∧ n ≤ 9223372036854775807 := by
  simp only [Lit.wf, Bool.and_eq_true, decide_eq_true_eq] at h
  exact h

end Go.Proofs.YtpnboieppkjfnaaGreat
