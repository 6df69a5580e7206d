/-
  token of the project, walked.
-/
import Derived.Test.YtpnboieppkjfnaaLxT
namespace Go.Proofs.Ytpnboieppkjfnaa
open Go.RowKit

theorem ext_size (s : ByteArray) (a : Nat) : (s.extract a s.size).size = s.size - a := by rw [ByteArray.size_extract]; omega

theorem tok_con_no {l : List UInt8} {i : Nat} (h : conEnd l i = 0) : conN (l.drop i) = none := by
  unfold conEnd at h
  cases hc : conN (l.drop i) with
  | none => rfl
  | some x =>
    rw [hc] at h
    have := conN_in hc
    simp at h
    omega
theorem tok_dig {l : List UInt8} {i : Nat} (h : conEnd l i = 0) (hl : isLet ((l.drop i).getD 0 0) = false) (hd : (isDig ((l.drop i).getD 0 0) || (decide ((l.drop i).getD 0 0 = 46) && isDig ((l.drop i).getD 1 0))) = true) : tok (l.drop i) = (2, numN ((l.drop i).getD 0 0) ((l.drop i).drop 1) + 1) := by
  unfold tok
  rw [tok_con_no h]
  show (if _ then _ else _) = _
  rw [if_neg (by rw [hl]; simp), if_pos hd]
theorem tok_pun {l : List UInt8} {i : Nat} (h : conEnd l i = 0) (hl : isLet ((l.drop i).getD 0 0) = false) (hd : (isDig ((l.drop i).getD 0 0) || (decide ((l.drop i).getD 0 0 = 46) && isDig ((l.drop i).getD 1 0))) = false) (hp : 0 < punctN (l.drop i)) : tok (l.drop i) = (5, punctN (l.drop i)) := by
  unfold tok
  rw [tok_con_no h]
  show (if _ then _ else _) = _
  rw [if_neg (by rw [hl]; simp), if_neg (by rw [hd]; simp), if_pos hp]
theorem tok_oth {l : List UInt8} {i : Nat} (h : conEnd l i = 0) (hl : isLet ((l.drop i).getD 0 0) = false) (hd : (isDig ((l.drop i).getD 0 0) || (decide ((l.drop i).getD 0 0 = 46) && isDig ((l.drop i).getD 1 0))) = false) (hp : punctN (l.drop i) = 0) : tok (l.drop i) = (6, 1) := by
  unfold tok
  rw [tok_con_no h]
  show (if _ then _ else _) = _
  rw [if_neg (by rw [hl]; simp), if_neg (by rw [hd]; simp), if_neg (by omega)]

theorem tok_fin {g : Nat} {c : WC} {k r u0 u1 : Nat} {w w' : World} {x y : Int} (hx : x = (k : Int)) (hy : y = (r : Int)) (hs : Step g c { c with u0 := u0, u1 := u1 } w w') (h0 : Un c.ch.data.toList c.i 34 u0) (h1 : Un c.ch.data.toList c.i 39 u1) : tokPost g c k r w (.returned (.tuple #[.int .i64 x, .int .i64 y])) w' := by
  subst hx hy
  exact ⟨rfl, u0, u1, hs, h0, h1⟩

theorem wordLen_is {s : ByteArray} (hs : s.size ≤ 1000000) (hN : Nl s.data.toList) (h2 : 1 < s.size) {n : Nat} (hn : wordN (s.data.toList.drop 1) + 1 = n) (W : World) : Calls Try.prog 50 #[.int .i64 1, .string s] W (NatDrew n W) := hn ▸ wordLen_any s W hs hN h2
theorem numberLen_is {s : ByteArray} (hs : s.size ≤ 1000000) (hN : Nl s.data.toList) (h2 : 1 < s.size) {n : Nat} (hn : numN (s.data.toList.getD 0 0) (s.data.toList.drop 1) + 1 = n) (W : World) : Calls Try.prog 50 #[.int .i64 2, .string s] W (NatDrew n W) := hn ▸ numberLen_any s W hs hN h2
theorem punctLen_is {s : ByteArray} (hs : s.size ≤ 1000000) {n : Nat} (hn : punctN s.data.toList = n) (W : World) : Calls Try.prog 52 #[.string s] W (NatPost n W) := hn ▸ punctLen_any s W hs

set_option maxRecDepth 100000 in
set_option maxHeartbeats 3200000 in
theorem token_con {g : Nat} {c : WC} {w : World} (h : WAt g c w) (hs : c.ch.size ≤ 1000000) (hN : Nl c.ch.data.toList) (hi : c.i < c.ch.size) (hu0 : Un c.ch.data.toList c.i 34 c.u0) (hu1 : Un c.ch.data.toList c.i 39 c.u1) (he : 0 < conEnd c.ch.data.toList c.i) :
    Calls Try.prog 30 #[.pointer (some ⟨g, 0, none⟩)] w (tokPost g c (tok (c.ch.data.toList.drop c.i)).1 (c.i + (tok (c.ch.data.toList.drop c.i)).2) w) := by
  have HC := Lib.hid (constant_any h hs hN hi hu0 hu1)
  have h2 := tok_con he
  rw [h2.1, h2.2] at HC
  rw [h2.2] at he
  obtain ⟨k, hk⟩ : ∃ k, (tok (c.ch.data.toList.drop c.i)).1 = k := ⟨_, rfl⟩
  obtain ⟨r, hr⟩ : ∃ r, c.i + (tok (c.ch.data.toList.drop c.i)).2 = r := ⟨_, rfl⟩
  rw [hk, hr] at HC ⊢
  rw [hr] at he
  have hei : (0 : Int) < (r : Int) := by omega
  clear h2 hk hr h hN hu0 hu1
  go_enter Try.func30, Try.ntmps30
  go_wp2_with (go_at_call 48; (with_reducible refine HC.out.mono ?_); rintro e w1 ⟨rfl, u0, u1, hst, hv0, hv1⟩; have HST := Lib.hid hst; have HV0 := Lib.hid hv0; have HV1 := Lib.hid hv1; clear hst hv0 hv1)
  go_ret2
  exact ⟨rfl, u0, u1, HST.out, HV0.out, HV1.out⟩

set_option maxRecDepth 100000 in
set_option maxHeartbeats 6400000 in
theorem token_no {g : Nat} {c : WC} {w : World} (h : WAt g c w) (hs : c.ch.size ≤ 1000000) (hN : Nl c.ch.data.toList) (hi : c.i < c.ch.size) (h10 : c.ch.data.toList.getD c.i 0 ≠ 10) (hu0 : Un c.ch.data.toList c.i 34 c.u0) (hu1 : Un c.ch.data.toList c.i 39 c.u1) (he : conEnd c.ch.data.toList c.i = 0) :
    Calls Try.prog 30 #[.pointer (some ⟨g, 0, none⟩)] w (tokPost g c (tok (c.ch.data.toList.drop c.i)).1 (c.i + (tok (c.ch.data.toList.drop c.i)).2) w) := by
  have HC := Lib.hid (constant_any h hs hN hi hu0 hu1)
  rw [he] at HC
  obtain ⟨ck, hck⟩ : ∃ ck, conKind c.ch.data.toList c.i = ck := ⟨_, rfl⟩
  rw [hck] at HC
  have hw := tok_word he
  have hd := tok_dig he
  have hp := tok_pun he
  have ho := tok_oth he
  have hNd := hN.drop (i := c.i) (by rw [len_byte]; exact hi)
  have h10d : (c.ch.data.toList.drop c.i).getD 0 0 ≠ 10 := by rw [getD_drop]; exact h10
  have hw' : isLet ((c.ch.data.toList.drop c.i).getD 0 0) = true → tok (c.ch.data.toList.drop c.i) = (1, wordN ((c.ch.data.toList.drop c.i).drop 1) + 1) := by
    rw [getD_drop]
    exact hw
  clear hw
  have hRs := ext_size c.ch c.i
  have hRe := ext_end c.ch c.i
  obtain ⟨R, hR⟩ : ∃ R, c.ch.extract c.i c.ch.size = R := ⟨_, rfl⟩
  rw [hR] at hRs hRe
  rw [← hRe] at hw' hd hp ho hNd h10d ⊢
  have h2 : 1 < R.size := by
    have := hNd.two h10d
    rw [len_byte] at this
    exact this
  have h2i : (1 : Int) < (R.size : Int) := by omega
  have hRs2 : R.size ≤ 1000000 := by omega
  have h00 : 0 < R.size := by omega
  have g0 := get_byte R 0 h00
  have g1 := get_byte R 1 h2
  rw [g0] at hw' hd hp ho
  rw [g1] at hd hp ho
  have HR := Lib.hid hR
  have HW := Lib.hid hw'
  have HD := Lib.hid hd
  have HP := Lib.hid hp
  have HO := Lib.hid ho
  have HNd := Lib.hid hNd
  have hii : (c.i : Int) ≤ (c.ch.size : Int) := by omega
  have hi0 : (0 : Int) ≤ (c.i : Int) := by omega
  clear hR hw' hd hp ho hNd h10d hRs hRe g0 g1 hck he h h10 hN hu0 hu1
  cases hl : isLet R[0] with
  | true =>
    have HLE := Lib.hid (letter_is hl)
    have ht := HW.out hl
    obtain ⟨n, hn⟩ : ∃ n, wordN (R.data.toList.drop 1) + 1 = n := ⟨_, rfl⟩
    rw [hn] at ht
    have HWL := Lib.hid (wordLen_is hRs2 HNd.out h2 hn)
    have hnb : n ≤ R.size := by
      have := wordN_le (R.data.toList.drop 1)
      rw [List.length_drop, len_byte] at this
      omega
    rw [ht]
    clear hl ht hn HW HD HP HO
    go_enter Try.func30, Try.ntmps30
    go_wp2_with (go_at_call 48; (with_reducible refine HC.out.mono ?_); rintro e w1 ⟨rfl, u0, u1, hst, hv0, hv1⟩; have HST := Lib.hid hst; have HV0 := Lib.hid hv0; have HV1 := Lib.hid hv1; have c3 := hst.is.k3; have c4 := hst.is.k4; simp only at c3 c4; clear hst hv0 hv1)
    go_quiet (fail)
    rw [HR.out]
    obtain ⟨w2, hw2⟩ : ∃ w2, w1.drewN nq = w2 := ⟨_, rfl⟩
    have c42 : w2.cell? ⟨g, 4, none⟩ = some (.int .i64 (c.i : Int)) := by rw [← hw2]; exact c4
    have HS2 := Lib.hid (show Step g c { c with u0 := u0, u1 := u1 } w w2 from by rw [← hw2]; exact HST.out.drewN nq)
    rw [hw2]
    clear hw2 c3 c4
    go_wp2_with (first
      | (go_at_call 49; (with_reducible refine (HLE.out _).mono ?_); rintro e w' ⟨rfl, rfl⟩))
    go_quiet ((go_at_call 50; exact quiet_ndrew (HWL.out _)))
    go_wp2
    go_ret2
    exact tok_fin rfl (by simp) (HS2.out.drewN _) HV0.out HV1.out
  | false =>
    have HLE := Lib.hid (letter_is hl)
    have hd := HD.out hl
    have hp := HP.out hl
    have ho := HO.out hl
    clear hl HW HD HP HO
    obtain ⟨n, hn⟩ : ∃ n, numN (R.data.toList.getD 0 0) (R.data.toList.drop 1) + 1 = n := ⟨_, rfl⟩
    have HNL := Lib.hid (numberLen_is hRs2 HNd.out h2 hn)
    have hnb : n ≤ R.size := by
      have := numN_le (R.data.toList.getD 0 0) (R.data.toList.drop 1)
      rw [List.length_drop, len_byte] at this
      omega
    rw [← get_byte R 0 h00, hn] at hd
    rw [get_byte R 0 h00] at hd
    clear hn
    cases hd0 : isDig R[0] with
    | true =>
      have HD0 := Lib.hid (digit_is hd0)
      have ht := hd (by rw [hd0]; rfl)
      rw [ht]
      clear hd hp ho ht hd0
      go_enter Try.func30, Try.ntmps30
      go_wp2_with (go_at_call 48; (with_reducible refine HC.out.mono ?_); rintro e w1 ⟨rfl, u0, u1, hst, hv0, hv1⟩; have HST := Lib.hid hst; have HV0 := Lib.hid hv0; have HV1 := Lib.hid hv1; have c3 := hst.is.k3; have c4 := hst.is.k4; simp only at c3 c4; clear hst hv0 hv1)
      go_quiet (fail)
      rw [HR.out]
      obtain ⟨w2, hw2⟩ : ∃ w2, w1.drewN nq = w2 := ⟨_, rfl⟩
      have c42 : w2.cell? ⟨g, 4, none⟩ = some (.int .i64 (c.i : Int)) := by rw [← hw2]; exact c4
      have HS2 := Lib.hid (show Step g c { c with u0 := u0, u1 := u1 } w w2 from by rw [← hw2]; exact HST.out.drewN nq)
      rw [hw2]
      clear hw2 c3 c4
      go_wp2_with (first
        | (go_at_call 49; (with_reducible refine (HLE.out _).mono ?_); rintro e w' ⟨rfl, rfl⟩)
        | (go_at_call 51; (with_reducible refine (HD0.out _).mono ?_); rintro e w' ⟨rfl, rfl⟩))
      go_quiet ((go_at_call 50; exact quiet_ndrew (HNL.out _)))
      go_wp2
      go_ret2
      exact tok_fin rfl (by simp) (HS2.out.drewN _) HV0.out HV1.out
    | false =>
      have HD0 := Lib.hid (digit_is hd0)
      rw [hd0] at hd hp ho
      clear hd0
      by_cases h46 : R[0] = 46
      · have hb : (((R[0].toNat : Nat) : Int) == 46) = true := by rw [h46]; rfl
        rw [decide_eq_true h46] at hd hp ho
        clear h46
        cases hd1 : isDig R[1] with
        | true =>
          have HD1 := Lib.hid (digit_is hd1)
          have ht := hd (by rw [hd1]; rfl)
          rw [ht]
          clear hd hp ho ht hd1
          go_enter Try.func30, Try.ntmps30
          go_wp2_with (go_at_call 48; (with_reducible refine HC.out.mono ?_); rintro e w1 ⟨rfl, u0, u1, hst, hv0, hv1⟩; have HST := Lib.hid hst; have HV0 := Lib.hid hv0; have HV1 := Lib.hid hv1; have c3 := hst.is.k3; have c4 := hst.is.k4; simp only at c3 c4; clear hst hv0 hv1)
          go_quiet (fail)
          rw [HR.out]
          obtain ⟨w2, hw2⟩ : ∃ w2, w1.drewN nq = w2 := ⟨_, rfl⟩
          have c42 : w2.cell? ⟨g, 4, none⟩ = some (.int .i64 (c.i : Int)) := by rw [← hw2]; exact c4
          have HS2 := Lib.hid (show Step g c { c with u0 := u0, u1 := u1 } w w2 from by rw [← hw2]; exact HST.out.drewN nq)
          rw [hw2]
          clear hw2 c3 c4
          go_wp2_with (first
            | (go_at_call 49; (with_reducible refine (HLE.out _).mono ?_); rintro e w' ⟨rfl, rfl⟩)
            | (go_at_call 51; (with_reducible refine (HD0.out _).mono ?_); rintro e w' ⟨rfl, rfl⟩)
            | (go_at_call 51; (with_reducible refine (HD1.out _).mono ?_); rintro e w' ⟨rfl, rfl⟩))
          go_quiet ((go_at_call 50; exact quiet_ndrew (HNL.out _)))
          go_wp2
          go_ret2
          exact tok_fin rfl (by simp) (HS2.out.drewN _) HV0.out HV1.out
        | false =>
          have HD1 := Lib.hid (digit_is hd1)
          have hp2 := hp (by rw [hd1]; rfl)
          have ho2 := ho (by rw [hd1]; rfl)
          clear hd hp ho hd1
          obtain ⟨m, hm⟩ : ∃ m, punctN R.data.toList = m := ⟨_, rfl⟩
          have hmb := punctN_le R.data.toList
          rw [hm] at hp2 ho2 hmb
          have HPN := Lib.hid (punctLen_is hRs2 hm)
          clear hm
          by_cases h0 : 0 < m
          · have h0i : (0 : Int) < (m : Int) := by omega
            rw [hp2 h0]
            clear hp2 ho2
            go_enter Try.func30, Try.ntmps30
            go_wp2_with (go_at_call 48; (with_reducible refine HC.out.mono ?_); rintro e w1 ⟨rfl, u0, u1, hst, hv0, hv1⟩; have HST := Lib.hid hst; have HV0 := Lib.hid hv0; have HV1 := Lib.hid hv1; have c3 := hst.is.k3; have c4 := hst.is.k4; simp only at c3 c4; clear hst hv0 hv1)
            go_quiet (fail)
            rw [HR.out]
            obtain ⟨w2, hw2⟩ : ∃ w2, w1.drewN nq = w2 := ⟨_, rfl⟩
            have c42 : w2.cell? ⟨g, 4, none⟩ = some (.int .i64 (c.i : Int)) := by rw [← hw2]; exact c4
            have HS2 := Lib.hid (show Step g c { c with u0 := u0, u1 := u1 } w w2 from by rw [← hw2]; exact HST.out.drewN nq)
            rw [hw2]
            clear hw2 c3 c4
            go_wp2_with (first
              | (go_at_call 49; (with_reducible refine (HLE.out _).mono ?_); rintro e w' ⟨rfl, rfl⟩)
              | (go_at_call 51; (with_reducible refine (HD0.out _).mono ?_); rintro e w' ⟨rfl, rfl⟩)
              | (go_at_call 51; (with_reducible refine (HD1.out _).mono ?_); rintro e w' ⟨rfl, rfl⟩)
              | (go_at_call 52; (with_reducible refine (HPN.out _).mono ?_); rintro e w' ⟨rfl, rfl⟩))
            go_quiet (fail)
            go_wp2
            go_ret2
            exact tok_fin rfl (by simp) (HS2.out.drewN _) HV0.out HV1.out
          · have h0i : ¬ (0 : Int) < (m : Int) := by omega
            rw [ho2 (by omega)]
            clear hp2 ho2
            go_enter Try.func30, Try.ntmps30
            go_wp2_with (go_at_call 48; (with_reducible refine HC.out.mono ?_); rintro e w1 ⟨rfl, u0, u1, hst, hv0, hv1⟩; have HST := Lib.hid hst; have HV0 := Lib.hid hv0; have HV1 := Lib.hid hv1; have c3 := hst.is.k3; have c4 := hst.is.k4; simp only at c3 c4; clear hst hv0 hv1)
            go_quiet (fail)
            rw [HR.out]
            obtain ⟨w2, hw2⟩ : ∃ w2, w1.drewN nq = w2 := ⟨_, rfl⟩
            have c42 : w2.cell? ⟨g, 4, none⟩ = some (.int .i64 (c.i : Int)) := by rw [← hw2]; exact c4
            have HS2 := Lib.hid (show Step g c { c with u0 := u0, u1 := u1 } w w2 from by rw [← hw2]; exact HST.out.drewN nq)
            rw [hw2]
            clear hw2 c3 c4
            go_wp2_with (first
              | (go_at_call 49; (with_reducible refine (HLE.out _).mono ?_); rintro e w' ⟨rfl, rfl⟩)
              | (go_at_call 51; (with_reducible refine (HD0.out _).mono ?_); rintro e w' ⟨rfl, rfl⟩)
              | (go_at_call 51; (with_reducible refine (HD1.out _).mono ?_); rintro e w' ⟨rfl, rfl⟩)
              | (go_at_call 52; (with_reducible refine (HPN.out _).mono ?_); rintro e w' ⟨rfl, rfl⟩))
            go_quiet (fail)
            go_wp2
            go_ret2
            exact tok_fin rfl (by simp) (HS2.out.drewN _) HV0.out HV1.out
      · have hb : (((R[0].toNat : Nat) : Int) == 46) = false := byte_neB (n := 46) (by omega) h46
        rw [decide_eq_false h46] at hp ho
        have hp2 := hp rfl
        have ho2 := ho rfl
        clear hd hp ho h46
        obtain ⟨m, hm⟩ : ∃ m, punctN R.data.toList = m := ⟨_, rfl⟩
        have hmb := punctN_le R.data.toList
        rw [hm] at hp2 ho2 hmb
        have HPN := Lib.hid (punctLen_is hRs2 hm)
        clear hm
        by_cases h0 : 0 < m
        · have h0i : (0 : Int) < (m : Int) := by omega
          rw [hp2 h0]
          clear hp2 ho2
          go_enter Try.func30, Try.ntmps30
          go_wp2_with (go_at_call 48; (with_reducible refine HC.out.mono ?_); rintro e w1 ⟨rfl, u0, u1, hst, hv0, hv1⟩; have HST := Lib.hid hst; have HV0 := Lib.hid hv0; have HV1 := Lib.hid hv1; have c3 := hst.is.k3; have c4 := hst.is.k4; simp only at c3 c4; clear hst hv0 hv1)
          go_quiet (fail)
          rw [HR.out]
          obtain ⟨w2, hw2⟩ : ∃ w2, w1.drewN nq = w2 := ⟨_, rfl⟩
          have c42 : w2.cell? ⟨g, 4, none⟩ = some (.int .i64 (c.i : Int)) := by rw [← hw2]; exact c4
          have HS2 := Lib.hid (show Step g c { c with u0 := u0, u1 := u1 } w w2 from by rw [← hw2]; exact HST.out.drewN nq)
          rw [hw2]
          clear hw2 c3 c4
          go_wp2_with (first
            | (go_at_call 49; (with_reducible refine (HLE.out _).mono ?_); rintro e w' ⟨rfl, rfl⟩)
            | (go_at_call 51; (with_reducible refine (HD0.out _).mono ?_); rintro e w' ⟨rfl, rfl⟩)
            | (go_at_call 52; (with_reducible refine (HPN.out _).mono ?_); rintro e w' ⟨rfl, rfl⟩))
          go_quiet (fail)
          go_wp2
          go_ret2
          exact tok_fin rfl (by simp) (HS2.out.drewN _) HV0.out HV1.out
        · have h0i : ¬ (0 : Int) < (m : Int) := by omega
          rw [ho2 (by omega)]
          clear hp2 ho2
          go_enter Try.func30, Try.ntmps30
          go_wp2_with (go_at_call 48; (with_reducible refine HC.out.mono ?_); rintro e w1 ⟨rfl, u0, u1, hst, hv0, hv1⟩; have HST := Lib.hid hst; have HV0 := Lib.hid hv0; have HV1 := Lib.hid hv1; have c3 := hst.is.k3; have c4 := hst.is.k4; simp only at c3 c4; clear hst hv0 hv1)
          go_quiet (fail)
          rw [HR.out]
          obtain ⟨w2, hw2⟩ : ∃ w2, w1.drewN nq = w2 := ⟨_, rfl⟩
          have c42 : w2.cell? ⟨g, 4, none⟩ = some (.int .i64 (c.i : Int)) := by rw [← hw2]; exact c4
          have HS2 := Lib.hid (show Step g c { c with u0 := u0, u1 := u1 } w w2 from by rw [← hw2]; exact HST.out.drewN nq)
          rw [hw2]
          clear hw2 c3 c4
          go_wp2_with (first
            | (go_at_call 49; (with_reducible refine (HLE.out _).mono ?_); rintro e w' ⟨rfl, rfl⟩)
            | (go_at_call 51; (with_reducible refine (HD0.out _).mono ?_); rintro e w' ⟨rfl, rfl⟩)
            | (go_at_call 52; (with_reducible refine (HPN.out _).mono ?_); rintro e w' ⟨rfl, rfl⟩))
          go_quiet (fail)
          go_wp2
          go_ret2
          exact tok_fin rfl (by simp) (HS2.out.drewN _) HV0.out HV1.out

theorem token_any {g : Nat} {c : WC} {w : World} (h : WAt g c w) (hs : c.ch.size ≤ 1000000) (hN : Nl c.ch.data.toList) (hi : c.i < c.ch.size) (h10 : c.ch.data.toList.getD c.i 0 ≠ 10) (hu0 : Un c.ch.data.toList c.i 34 c.u0) (hu1 : Un c.ch.data.toList c.i 39 c.u1) :
    Calls Try.prog 30 #[.pointer (some ⟨g, 0, none⟩)] w (tokPost g c (tok (c.ch.data.toList.drop c.i)).1 (c.i + (tok (c.ch.data.toList.drop c.i)).2) w) := by
  rcases Nat.eq_zero_or_pos (conEnd c.ch.data.toList c.i) with he | he
  · exact token_no h hs hN hi h10 hu0 hu1 he
  · exact token_con h hs hN hi hu0 hu1 he

end Go.Proofs.Ytpnboieppkjfnaa
