/-
  Texts of the proof, put together: LxT, LxK.
-/
import Derived.Test.YtobplffailbkbaaG04

/-
  constant and token of the project, walked.
-/
namespace Go.Proofs.Ytobplffailbkbaa
open Go.RowKit

/-- What token and constant answer, and that of the walk only what is known of quotes has turned. -/
def tokPost (g : Nat) (c : WC) (k r : Nat) (w : World) (e : Ending) (w' : World) : Prop :=
  e = .returned (.tuple #[.int .i64 (k : Int), .int .i64 (r : Int)]) ∧ ∃ u0 u1, Step g c { c with u0 := u0, u1 := u1 } w w' ∧ Un c.ch.data.toList c.i 34 u0 ∧ Un c.ch.data.toList c.i 39 u1

theorem tokPost.of_closed {g : Nat} {c : WC} {k r n : Nat} {w w1 : World} {e : Ending} {x y : Int} (hx : x = (k : Int)) (h : closedPost g c r (w.drewN n) e w1) (hy : e = .returned (.int .i64 y)) (hA : WAt g c w) : tokPost g c k r w (.returned (.tuple #[.int .i64 x, .int .i64 y])) w1 := by
  obtain ⟨he, u0, u1, hs, h0, h1⟩ := h
  rw [hy] at he
  simp only [Ending.returned.injEq, Value.int.injEq, true_and] at he
  subst he hx
  exact ⟨rfl, u0, u1, ((Step.refl hA).drewN n).trans hs, h0, h1⟩

/-- The constant at a place: its kind, and its end; 0, if there is none. -/
def conEnd (l : List UInt8) (i : Nat) : Nat := match conN (l.drop i) with
  | some x => i + x.2
  | none => 0
def conKind (l : List UInt8) (i : Nat) : Nat := if l.getD (i + lettN (l.drop i)) 0 = 34 then 4 else if l.getD (i + lettN (l.drop i)) 0 = 39 then 3 else 0

theorem con_str {l : List UInt8} {i : Nat} (h : l.getD (i + lettN (l.drop i)) 0 = 34) : conEnd l i = qEnd l 34 (i + lettN (l.drop i)) := by
  unfold conEnd conN qEnd
  rw [getD_drop, if_pos h, List.drop_drop]
  rw [show i + (lettN (l.drop i) + 1) = i + lettN (l.drop i) + 1 from by omega]
  cases qN 34 false (l.drop (i + lettN (l.drop i) + 1)) with
  | none => rfl
  | some n => simp; omega
theorem con_chr {l : List UInt8} {i : Nat} (h : l.getD (i + lettN (l.drop i)) 0 = 39) : conEnd l i = qEnd l 39 (i + lettN (l.drop i)) := by
  unfold conEnd conN qEnd
  rw [getD_drop, if_neg (by rw [h]; decide), if_pos h, List.drop_drop]
  rw [show i + (lettN (l.drop i) + 1) = i + lettN (l.drop i) + 1 from by omega]
  cases qN 39 false (l.drop (i + lettN (l.drop i) + 1)) with
  | none => rfl
  | some n => simp; omega
theorem con_no {l : List UInt8} {i : Nat} (h : l.getD (i + lettN (l.drop i)) 0 ≠ 34) (h2 : l.getD (i + lettN (l.drop i)) 0 ≠ 39) : conEnd l i = 0 := by
  unfold conEnd conN
  rw [getD_drop, if_neg h, if_neg h2]

theorem lett_lt {l : List UInt8} (hN : Nl l) : lettN l < l.length := by
  have h0 := hN.1
  rcases lettN_is l with h | h | h
  · omega
  · have : l.getD 1 0 ≠ 0 := by rcases h.2.2 with e | e <;> (rw [e]; decide)
    have := getD_lt this
    omega
  · have := getD_lt (l := l) (i := 2) (by rw [h.2.2.2]; decide)
    omega

theorem lett_ne {l : List UInt8} {i j : Nat} {q : UInt8} (hq : isWord q = false) (h1 : i ≤ j) (h2 : j < i + lettN (l.drop i)) : l.getD j 0 ≠ q := by
  intro e
  have h := lettN_in (l.drop i) (j - i) (by omega)
  rw [getD_drop, show i + (j - i) = j from by omega, e, hq] at h
  cases h

theorem ext_data (s : ByteArray) (a b : Nat) : (s.extract a b).data.toList = (s.data.toList.drop a).take (b - a) := by
  obtain ⟨⟨l⟩⟩ := s
  rw [ByteArray.extract_mk]
theorem ext_end (s : ByteArray) (a : Nat) : (s.extract a s.size).data.toList = s.data.toList.drop a := by
  rw [ext_data, List.take_of_length_le]
  rw [List.length_drop, len_byte]
  exact Nat.le_refl _

theorem lettersAhead_at (s : ByteArray) (i : Nat) (hs : s.size ≤ 1000000) (hN : Nl s.data.toList) (hi : i < s.size) {n : Nat} (hn : lettN (s.data.toList.drop i) = n) (W : World) : Calls Try.prog 89 #[.string (s.extract i s.size)] W (NatPost n W) := by
  have h := lettersAhead_any (s.extract i s.size) W (by rw [ByteArray.size_extract]; omega) (by rw [ext_end]; exact hN.drop (by rw [len_byte]; exact hi))
  rw [ext_end, hn] at h
  exact h

set_option maxRecDepth 100000 in
set_option maxHeartbeats 3200000 in
theorem constant_any {g : Nat} {c : WC} {w : World} (h : WAt g c w) (hs : c.ch.size ≤ 1000000) (hN : Nl c.ch.data.toList) (hi : c.i < c.ch.size) (hu0 : Un c.ch.data.toList c.i 34 c.u0) (hu1 : Un c.ch.data.toList c.i 39 c.u1) :
    Calls Try.prog 77 #[.pointer (some ⟨g, 0, none⟩)] w (tokPost g c (conKind c.ch.data.toList c.i) (conEnd c.ch.data.toList c.i) w) := by
  have c3 := h.k3
  have c4 := h.k4
  obtain ⟨n, hn⟩ : ∃ n, lettN (c.ch.data.toList.drop c.i) = n := ⟨_, rfl⟩
  have hnl : c.i + n < c.ch.size := by
    have := lett_lt (hN.drop (i := c.i) (by rw [len_byte]; exact hi))
    rw [hn, List.length_drop, len_byte] at this
    omega
  have HL := Lib.hid (lettersAhead_at c.ch c.i hs hN hi hn)
  have hK : conKind c.ch.data.toList c.i = if c.ch[c.i + n] = 34 then 4 else if c.ch[c.i + n] = 39 then 3 else 0 := by
    unfold conKind
    rw [hn, get_byte c.ch _ hnl]
  have hE4 := con_str (l := c.ch.data.toList) (i := c.i)
  have hE3 := con_chr (l := c.ch.data.toList) (i := c.i)
  have hE0 := con_no (l := c.ch.data.toList) (i := c.i)
  have hne := fun (q : UInt8) (hq : isWord q = false) (j : Nat) => lett_ne (l := c.ch.data.toList) (i := c.i) (j := j) hq
  rw [hn, get_byte c.ch _ hnl] at hE4 hE3 hE0
  rw [hn] at hne
  have hle : c.i ≤ c.i + n := Nat.le_add_right _ _
  have HC4 : Hid (c.ch[c.i + n] = 34 → ∀ W : World, WAt g c W → Calls Try.prog 90 #[.pointer (some ⟨g, 0, none⟩), .int .i64 ((c.i : Int) + (n : Int)), .int .i64 0] W (closedPost g c (qEnd c.ch.data.toList 34 (c.i + n)) W)) := Lib.hid (fun hq W hW => closed0_any hW (c.i + n) hs hN hle (by rw [get_byte c.ch _ hnl]; exact hq) (hne 34 (by decide)) hu0 hu1)
  have HC3 : Hid (c.ch[c.i + n] = 39 → ∀ W : World, WAt g c W → Calls Try.prog 90 #[.pointer (some ⟨g, 0, none⟩), .int .i64 ((c.i : Int) + (n : Int)), .int .i64 1] W (closedPost g c (qEnd c.ch.data.toList 39 (c.i + n)) W)) := Lib.hid (fun hq W hW => closed1_any hW (c.i + n) hs hN hle (by rw [get_byte c.ch _ hnl]; exact hq) (hne 39 (by decide)) hu0 hu1)
  have HA := Lib.hid h
  have HU0 := Lib.hid hu0
  have HU1 := Lib.hid hu1
  clear h hne hn hN hu0 hu1
  have hii : (c.i : Int) < (c.ch.size : Int) := by omega
  have hii2 : (c.i : Int) ≤ (c.ch.size : Int) := by omega
  have hi0 : (0 : Int) ≤ (c.i : Int) := by omega
  have hni : (c.i : Int) + (n : Int) < (c.ch.size : Int) := by omega
  have hn0 : (0 : Int) ≤ (c.i : Int) + (n : Int) := by omega
  have htn : ((c.i : Int) + (n : Int)).toNat = c.i + n := by omega
  have HTN := Lib.hid htn
  clear htn
  rw [hK]
  by_cases h4 : c.ch[c.i + n] = 34
  · have hb : (((c.ch[c.i + n].toNat : Nat) : Int) == 34) = true := by rw [h4]; rfl
    rw [if_pos h4, hE4 h4]
    have HC := Lib.hid (HC4.out h4)
    clear hK hE4 hE3 hE0 h4
    go_enter Try.func77, Try.ntmps77
    go_wp2
    go_quiet ((go_at_call 89; exact quiet_nat (HL.out _)))
    go_wp2_with (go_at_call 90; (with_reducible refine (HC.out _ (HA.out.drewN _)).mono ?_); rintro e w1 ⟨rfl, u0, u1, hst, hv0, hv1⟩; have HST := Lib.hid hst; have HV0 := Lib.hid hv0; have HV1 := Lib.hid hv1; clear hst hv0 hv1)
    go_ret2
    exact ⟨rfl, u0, u1, ((Step.refl HA.out).drewN _).trans HST.out, HV0.out, HV1.out⟩
  · have hb : (((c.ch[c.i + n].toNat : Nat) : Int) == 34) = false := byte_neB (n := 34) (by omega) h4
    rw [if_neg h4]
    by_cases h3 : c.ch[c.i + n] = 39
    · have hb3 : (((c.ch[c.i + n].toNat : Nat) : Int) == 39) = true := by rw [h3]; rfl
      rw [if_pos h3, hE3 h3]
      have HC := Lib.hid (HC3.out h3)
      clear hK hE4 hE3 hE0 h4 h3
      go_enter Try.func77, Try.ntmps77
      go_wp2
      go_quiet ((go_at_call 89; exact quiet_nat (HL.out _)))
      go_wp2_with (go_at_call 90; (with_reducible refine (HC.out _ (HA.out.drewN _)).mono ?_); rintro e w1 ⟨rfl, u0, u1, hst, hv0, hv1⟩; have HST := Lib.hid hst; have HV0 := Lib.hid hv0; have HV1 := Lib.hid hv1; clear hst hv0 hv1)
      go_ret2
      exact ⟨rfl, u0, u1, ((Step.refl HA.out).drewN _).trans HST.out, HV0.out, HV1.out⟩
    · have hb3 : (((c.ch[c.i + n].toNat : Nat) : Int) == 39) = false := byte_neB (n := 39) (by omega) h3
      rw [if_neg h3, hE0 h4 h3]
      clear hK hE4 hE3 hE0 h4 h3
      go_enter Try.func77, Try.ntmps77
      go_wp2
      go_quiet ((go_at_call 89; exact quiet_nat (HL.out _)))
      go_wp2
      go_ret2
      exact ⟨rfl, c.u0, c.u1, (Step.refl HA.out).drewN _, HU0.out, HU1.out⟩

theorem tok_con {l : List UInt8} {i : Nat} (h : 0 < conEnd l i) : conKind l i = (tok (l.drop i)).1 ∧ conEnd l i = i + (tok (l.drop i)).2 := by
  unfold conEnd at h ⊢
  unfold tok
  cases hc : conN (l.drop i) with
  | none => rw [hc] at h; simp at h
  | some x =>
    refine ⟨?_, rfl⟩
    show conKind l i = x.1
    unfold conN at hc
    unfold conKind
    rw [getD_drop] at hc
    split at hc
    · rename_i h1
      rw [if_pos h1]
      rw [Option.map_eq_some_iff] at hc
      obtain ⟨n, -, rfl⟩ := hc
      rfl
    · rename_i h1
      rw [if_neg h1]
      split at hc
      · rename_i h2
        rw [if_pos h2]
        rw [Option.map_eq_some_iff] at hc
        obtain ⟨n, -, rfl⟩ := hc
        rfl
      · cases hc
theorem tok_word {l : List UInt8} {i : Nat} (h : conEnd l i = 0) (hl : isLet (l.getD i 0) = true) : tok (l.drop i) = (1, wordN ((l.drop i).drop 1) + 1) := by
  unfold conEnd at h
  unfold tok
  cases hc : conN (l.drop i) with
  | none =>
    show (if _ then _ else _) = _
    rw [getD_drop, Nat.add_zero, if_pos hl]
  | some x =>
    rw [hc] at h
    have := conN_in hc
    simp at h
    omega

end Go.Proofs.Ytobplffailbkbaa

/-
  token of the project, walked.
-/
namespace Go.Proofs.Ytobplffailbkbaa
open Go.RowKit

theorem ext_size (s : ByteArray) (a : Nat) : (s.extract a s.size).size = s.size - a := by rw [ByteArray.size_extract]; omega

theorem tok_con_no {l : List UInt8} {i : Nat} (h : conEnd l i = 0) : conN (l.drop i) = none := by
  unfold conEnd at h
  cases hc : conN (l.drop i) with
  | none => rfl
  | some x =>
    rw [hc] at h
    have := conN_in hc
    simp at h
    omega
theorem tok_dig {l : List UInt8} {i : Nat} (h : conEnd l i = 0) (hl : isLet ((l.drop i).getD 0 0) = false) (hd : (isDig ((l.drop i).getD 0 0) || (decide ((l.drop i).getD 0 0 = 46) && isDig ((l.drop i).getD 1 0))) = true) : tok (l.drop i) = (2, numN ((l.drop i).getD 0 0) ((l.drop i).drop 1) + 1) := by
  unfold tok
  rw [tok_con_no h]
  show (if _ then _ else _) = _
  rw [if_neg (by rw [hl]; simp), if_pos hd]
theorem tok_pun {l : List UInt8} {i : Nat} (h : conEnd l i = 0) (hl : isLet ((l.drop i).getD 0 0) = false) (hd : (isDig ((l.drop i).getD 0 0) || (decide ((l.drop i).getD 0 0 = 46) && isDig ((l.drop i).getD 1 0))) = false) (hp : 0 < punctN (l.drop i)) : tok (l.drop i) = (5, punctN (l.drop i)) := by
  unfold tok
  rw [tok_con_no h]
  show (if _ then _ else _) = _
  rw [if_neg (by rw [hl]; simp), if_neg (by rw [hd]; simp), if_pos hp]
theorem tok_oth {l : List UInt8} {i : Nat} (h : conEnd l i = 0) (hl : isLet ((l.drop i).getD 0 0) = false) (hd : (isDig ((l.drop i).getD 0 0) || (decide ((l.drop i).getD 0 0 = 46) && isDig ((l.drop i).getD 1 0))) = false) (hp : punctN (l.drop i) = 0) : tok (l.drop i) = (6, 1) := by
  unfold tok
  rw [tok_con_no h]
  show (if _ then _ else _) = _
  rw [if_neg (by rw [hl]; simp), if_neg (by rw [hd]; simp), if_neg (by omega)]

theorem tok_fin {g : Nat} {c : WC} {k r u0 u1 : Nat} {w w' : World} {x y : Int} (hx : x = (k : Int)) (hy : y = (r : Int)) (hs : Step g c { c with u0 := u0, u1 := u1 } w w') (h0 : Un c.ch.data.toList c.i 34 u0) (h1 : Un c.ch.data.toList c.i 39 u1) : tokPost g c k r w (.returned (.tuple #[.int .i64 x, .int .i64 y])) w' := by
  subst hx hy
  exact ⟨rfl, u0, u1, hs, h0, h1⟩

theorem wordLen_is {s : ByteArray} (hs : s.size ≤ 1000000) (hN : Nl s.data.toList) (h2 : 1 < s.size) {n : Nat} (hn : wordN (s.data.toList.drop 1) + 1 = n) (W : World) : Calls Try.prog 79 #[.int .i64 1, .string s] W (NatDrew n W) := hn ▸ wordLen_any s W hs hN h2
theorem numberLen_is {s : ByteArray} (hs : s.size ≤ 1000000) (hN : Nl s.data.toList) (h2 : 1 < s.size) {n : Nat} (hn : numN (s.data.toList.getD 0 0) (s.data.toList.drop 1) + 1 = n) (W : World) : Calls Try.prog 79 #[.int .i64 2, .string s] W (NatDrew n W) := hn ▸ numberLen_any s W hs hN h2
theorem punctLen_is {s : ByteArray} (hs : s.size ≤ 1000000) {n : Nat} (hn : punctN s.data.toList = n) (W : World) : Calls Try.prog 81 #[.string s] W (NatPost n W) := hn ▸ punctLen_any s W hs

set_option maxRecDepth 100000 in
set_option maxHeartbeats 3200000 in
theorem token_con {g : Nat} {c : WC} {w : World} (h : WAt g c w) (hs : c.ch.size ≤ 1000000) (hN : Nl c.ch.data.toList) (hi : c.i < c.ch.size) (hu0 : Un c.ch.data.toList c.i 34 c.u0) (hu1 : Un c.ch.data.toList c.i 39 c.u1) (he : 0 < conEnd c.ch.data.toList c.i) :
    Calls Try.prog 58 #[.pointer (some ⟨g, 0, none⟩)] w (tokPost g c (tok (c.ch.data.toList.drop c.i)).1 (c.i + (tok (c.ch.data.toList.drop c.i)).2) w) := by
  have HC := Lib.hid (constant_any h hs hN hi hu0 hu1)
  have h2 := tok_con he
  rw [h2.1, h2.2] at HC
  rw [h2.2] at he
  obtain ⟨k, hk⟩ : ∃ k, (tok (c.ch.data.toList.drop c.i)).1 = k := ⟨_, rfl⟩
  obtain ⟨r, hr⟩ : ∃ r, c.i + (tok (c.ch.data.toList.drop c.i)).2 = r := ⟨_, rfl⟩
  rw [hk, hr] at HC ⊢
  rw [hr] at he
  have hei : (0 : Int) < (r : Int) := by omega
  clear h2 hk hr h hN hu0 hu1
  go_enter Try.func58, Try.ntmps58
  go_wp2_with (go_at_call 77; (with_reducible refine HC.out.mono ?_); rintro e w1 ⟨rfl, u0, u1, hst, hv0, hv1⟩; have HST := Lib.hid hst; have HV0 := Lib.hid hv0; have HV1 := Lib.hid hv1; clear hst hv0 hv1)
  go_ret2
  exact ⟨rfl, u0, u1, HST.out, HV0.out, HV1.out⟩

set_option maxRecDepth 100000 in
set_option maxHeartbeats 6400000 in
theorem token_no {g : Nat} {c : WC} {w : World} (h : WAt g c w) (hs : c.ch.size ≤ 1000000) (hN : Nl c.ch.data.toList) (hi : c.i < c.ch.size) (h10 : c.ch.data.toList.getD c.i 0 ≠ 10) (hu0 : Un c.ch.data.toList c.i 34 c.u0) (hu1 : Un c.ch.data.toList c.i 39 c.u1) (he : conEnd c.ch.data.toList c.i = 0) :
    Calls Try.prog 58 #[.pointer (some ⟨g, 0, none⟩)] w (tokPost g c (tok (c.ch.data.toList.drop c.i)).1 (c.i + (tok (c.ch.data.toList.drop c.i)).2) w) := by
  have HC := Lib.hid (constant_any h hs hN hi hu0 hu1)
  rw [he] at HC
  obtain ⟨ck, hck⟩ : ∃ ck, conKind c.ch.data.toList c.i = ck := ⟨_, rfl⟩
  rw [hck] at HC
  have hw := tok_word he
  have hd := tok_dig he
  have hp := tok_pun he
  have ho := tok_oth he
  have hNd := hN.drop (i := c.i) (by rw [len_byte]; exact hi)
  have h10d : (c.ch.data.toList.drop c.i).getD 0 0 ≠ 10 := by rw [getD_drop]; exact h10
  have hw' : isLet ((c.ch.data.toList.drop c.i).getD 0 0) = true → tok (c.ch.data.toList.drop c.i) = (1, wordN ((c.ch.data.toList.drop c.i).drop 1) + 1) := by
    rw [getD_drop]
    exact hw
  clear hw
  have hRs := ext_size c.ch c.i
  have hRe := ext_end c.ch c.i
  obtain ⟨R, hR⟩ : ∃ R, c.ch.extract c.i c.ch.size = R := ⟨_, rfl⟩
  rw [hR] at hRs hRe
  rw [← hRe] at hw' hd hp ho hNd h10d ⊢
  have h2 : 1 < R.size := by
    have := hNd.two h10d
    rw [len_byte] at this
    exact this
  have h2i : (1 : Int) < (R.size : Int) := by omega
  have hRs2 : R.size ≤ 1000000 := by omega
  have h00 : 0 < R.size := by omega
  have g0 := get_byte R 0 h00
  have g1 := get_byte R 1 h2
  rw [g0] at hw' hd hp ho
  rw [g1] at hd hp ho
  have HR := Lib.hid hR
  have HW := Lib.hid hw'
  have HD := Lib.hid hd
  have HP := Lib.hid hp
  have HO := Lib.hid ho
  have HNd := Lib.hid hNd
  have hii : (c.i : Int) ≤ (c.ch.size : Int) := by omega
  have hi0 : (0 : Int) ≤ (c.i : Int) := by omega
  clear hR hw' hd hp ho hNd h10d hRs hRe g0 g1 hck he h h10 hN hu0 hu1
  cases hl : isLet R[0] with
  | true =>
    have HLE := Lib.hid (letter_is hl)
    have ht := HW.out hl
    obtain ⟨n, hn⟩ : ∃ n, wordN (R.data.toList.drop 1) + 1 = n := ⟨_, rfl⟩
    rw [hn] at ht
    have HWL := Lib.hid (wordLen_is hRs2 HNd.out h2 hn)
    have hnb : n ≤ R.size := by
      have := wordN_le (R.data.toList.drop 1)
      rw [List.length_drop, len_byte] at this
      omega
    rw [ht]
    clear hl ht hn HW HD HP HO
    go_enter Try.func58, Try.ntmps58
    go_wp2_with (go_at_call 77; (with_reducible refine HC.out.mono ?_); rintro e w1 ⟨rfl, u0, u1, hst, hv0, hv1⟩; have HST := Lib.hid hst; have HV0 := Lib.hid hv0; have HV1 := Lib.hid hv1; have c3 := hst.is.k3; have c4 := hst.is.k4; simp only at c3 c4; clear hst hv0 hv1)
    go_quiet (fail)
    rw [HR.out]
    obtain ⟨w2, hw2⟩ : ∃ w2, w1.drewN nq = w2 := ⟨_, rfl⟩
    have c42 : w2.cell? ⟨g, 4, none⟩ = some (.int .i64 (c.i : Int)) := by rw [← hw2]; exact c4
    have HS2 := Lib.hid (show Step g c { c with u0 := u0, u1 := u1 } w w2 from by rw [← hw2]; exact HST.out.drewN nq)
    rw [hw2]
    clear hw2 c3 c4
    go_wp2_with (first
      | (go_at_call 78; (with_reducible refine (HLE.out _).mono ?_); rintro e w' ⟨rfl, rfl⟩))
    go_quiet ((go_at_call 79; exact quiet_ndrew (HWL.out _)))
    go_wp2
    go_ret2
    exact tok_fin rfl (by simp) (HS2.out.drewN _) HV0.out HV1.out
  | false =>
    have HLE := Lib.hid (letter_is hl)
    have hd := HD.out hl
    have hp := HP.out hl
    have ho := HO.out hl
    clear hl HW HD HP HO
    obtain ⟨n, hn⟩ : ∃ n, numN (R.data.toList.getD 0 0) (R.data.toList.drop 1) + 1 = n := ⟨_, rfl⟩
    have HNL := Lib.hid (numberLen_is hRs2 HNd.out h2 hn)
    have hnb : n ≤ R.size := by
      have := numN_le (R.data.toList.getD 0 0) (R.data.toList.drop 1)
      rw [List.length_drop, len_byte] at this
      omega
    rw [← get_byte R 0 h00, hn] at hd
    rw [get_byte R 0 h00] at hd
    clear hn
    cases hd0 : isDig R[0] with
    | true =>
      have HD0 := Lib.hid (digit_is hd0)
      have ht := hd (by rw [hd0]; rfl)
      rw [ht]
      clear hd hp ho ht hd0
      go_enter Try.func58, Try.ntmps58
      go_wp2_with (go_at_call 77; (with_reducible refine HC.out.mono ?_); rintro e w1 ⟨rfl, u0, u1, hst, hv0, hv1⟩; have HST := Lib.hid hst; have HV0 := Lib.hid hv0; have HV1 := Lib.hid hv1; have c3 := hst.is.k3; have c4 := hst.is.k4; simp only at c3 c4; clear hst hv0 hv1)
      go_quiet (fail)
      rw [HR.out]
      obtain ⟨w2, hw2⟩ : ∃ w2, w1.drewN nq = w2 := ⟨_, rfl⟩
      have c42 : w2.cell? ⟨g, 4, none⟩ = some (.int .i64 (c.i : Int)) := by rw [← hw2]; exact c4
      have HS2 := Lib.hid (show Step g c { c with u0 := u0, u1 := u1 } w w2 from by rw [← hw2]; exact HST.out.drewN nq)
      rw [hw2]
      clear hw2 c3 c4
      go_wp2_with (first
        | (go_at_call 78; (with_reducible refine (HLE.out _).mono ?_); rintro e w' ⟨rfl, rfl⟩)
        | (go_at_call 80; (with_reducible refine (HD0.out _).mono ?_); rintro e w' ⟨rfl, rfl⟩))
      go_quiet ((go_at_call 79; exact quiet_ndrew (HNL.out _)))
      go_wp2
      go_ret2
      exact tok_fin rfl (by simp) (HS2.out.drewN _) HV0.out HV1.out
    | false =>
      have HD0 := Lib.hid (digit_is hd0)
      rw [hd0] at hd hp ho
      clear hd0
      by_cases h46 : R[0] = 46
      · have hb : (((R[0].toNat : Nat) : Int) == 46) = true := by rw [h46]; rfl
        rw [decide_eq_true h46] at hd hp ho
        clear h46
        cases hd1 : isDig R[1] with
        | true =>
          have HD1 := Lib.hid (digit_is hd1)
          have ht := hd (by rw [hd1]; rfl)
          rw [ht]
          clear hd hp ho ht hd1
          go_enter Try.func58, Try.ntmps58
          go_wp2_with (go_at_call 77; (with_reducible refine HC.out.mono ?_); rintro e w1 ⟨rfl, u0, u1, hst, hv0, hv1⟩; have HST := Lib.hid hst; have HV0 := Lib.hid hv0; have HV1 := Lib.hid hv1; have c3 := hst.is.k3; have c4 := hst.is.k4; simp only at c3 c4; clear hst hv0 hv1)
          go_quiet (fail)
          rw [HR.out]
          obtain ⟨w2, hw2⟩ : ∃ w2, w1.drewN nq = w2 := ⟨_, rfl⟩
          have c42 : w2.cell? ⟨g, 4, none⟩ = some (.int .i64 (c.i : Int)) := by rw [← hw2]; exact c4
          have HS2 := Lib.hid (show Step g c { c with u0 := u0, u1 := u1 } w w2 from by rw [← hw2]; exact HST.out.drewN nq)
          rw [hw2]
          clear hw2 c3 c4
          go_wp2_with (first
            | (go_at_call 78; (with_reducible refine (HLE.out _).mono ?_); rintro e w' ⟨rfl, rfl⟩)
            | (go_at_call 80; (with_reducible refine (HD0.out _).mono ?_); rintro e w' ⟨rfl, rfl⟩)
            | (go_at_call 80; (with_reducible refine (HD1.out _).mono ?_); rintro e w' ⟨rfl, rfl⟩))
          go_quiet ((go_at_call 79; exact quiet_ndrew (HNL.out _)))
          go_wp2
          go_ret2
          exact tok_fin rfl (by simp) (HS2.out.drewN _) HV0.out HV1.out
        | false =>
          have HD1 := Lib.hid (digit_is hd1)
          have hp2 := hp (by rw [hd1]; rfl)
          have ho2 := ho (by rw [hd1]; rfl)
          clear hd hp ho hd1
          obtain ⟨m, hm⟩ : ∃ m, punctN R.data.toList = m := ⟨_, rfl⟩
          have hmb := punctN_le R.data.toList
          rw [hm] at hp2 ho2 hmb
          have HPN := Lib.hid (punctLen_is hRs2 hm)
          clear hm
          by_cases h0 : 0 < m
          · have h0i : (0 : Int) < (m : Int) := by omega
            rw [hp2 h0]
            clear hp2 ho2
            go_enter Try.func58, Try.ntmps58
            go_wp2_with (go_at_call 77; (with_reducible refine HC.out.mono ?_); rintro e w1 ⟨rfl, u0, u1, hst, hv0, hv1⟩; have HST := Lib.hid hst; have HV0 := Lib.hid hv0; have HV1 := Lib.hid hv1; have c3 := hst.is.k3; have c4 := hst.is.k4; simp only at c3 c4; clear hst hv0 hv1)
            go_quiet (fail)
            rw [HR.out]
            obtain ⟨w2, hw2⟩ : ∃ w2, w1.drewN nq = w2 := ⟨_, rfl⟩
            have c42 : w2.cell? ⟨g, 4, none⟩ = some (.int .i64 (c.i : Int)) := by rw [← hw2]; exact c4
            have HS2 := Lib.hid (show Step g c { c with u0 := u0, u1 := u1 } w w2 from by rw [← hw2]; exact HST.out.drewN nq)
            rw [hw2]
            clear hw2 c3 c4
            go_wp2_with (first
              | (go_at_call 78; (with_reducible refine (HLE.out _).mono ?_); rintro e w' ⟨rfl, rfl⟩)
              | (go_at_call 80; (with_reducible refine (HD0.out _).mono ?_); rintro e w' ⟨rfl, rfl⟩)
              | (go_at_call 80; (with_reducible refine (HD1.out _).mono ?_); rintro e w' ⟨rfl, rfl⟩)
              | (go_at_call 81; (with_reducible refine (HPN.out _).mono ?_); rintro e w' ⟨rfl, rfl⟩))
            go_quiet (fail)
            go_wp2
            go_ret2
            exact tok_fin rfl (by simp) (HS2.out.drewN _) HV0.out HV1.out
          · have h0i : ¬ (0 : Int) < (m : Int) := by omega
            rw [ho2 (by omega)]
            clear hp2 ho2
            go_enter Try.func58, Try.ntmps58
            go_wp2_with (go_at_call 77; (with_reducible refine HC.out.mono ?_); rintro e w1 ⟨rfl, u0, u1, hst, hv0, hv1⟩; have HST := Lib.hid hst; have HV0 := Lib.hid hv0; have HV1 := Lib.hid hv1; have c3 := hst.is.k3; have c4 := hst.is.k4; simp only at c3 c4; clear hst hv0 hv1)
            go_quiet (fail)
            rw [HR.out]
            obtain ⟨w2, hw2⟩ : ∃ w2, w1.drewN nq = w2 := ⟨_, rfl⟩
            have c42 : w2.cell? ⟨g, 4, none⟩ = some (.int .i64 (c.i : Int)) := by rw [← hw2]; exact c4
            have HS2 := Lib.hid (show Step g c { c with u0 := u0, u1 := u1 } w w2 from by rw [← hw2]; exact HST.out.drewN nq)
            rw [hw2]
            clear hw2 c3 c4
            go_wp2_with (first
              | (go_at_call 78; (with_reducible refine (HLE.out _).mono ?_); rintro e w' ⟨rfl, rfl⟩)
              | (go_at_call 80; (with_reducible refine (HD0.out _).mono ?_); rintro e w' ⟨rfl, rfl⟩)
              | (go_at_call 80; (with_reducible refine (HD1.out _).mono ?_); rintro e w' ⟨rfl, rfl⟩)
              | (go_at_call 81; (with_reducible refine (HPN.out _).mono ?_); rintro e w' ⟨rfl, rfl⟩))
            go_quiet (fail)
            go_wp2
            go_ret2
            exact tok_fin rfl (by simp) (HS2.out.drewN _) HV0.out HV1.out
      · have hb : (((R[0].toNat : Nat) : Int) == 46) = false := byte_neB (n := 46) (by omega) h46
        rw [decide_eq_false h46] at hp ho
        have hp2 := hp rfl
        have ho2 := ho rfl
        clear hd hp ho h46
        obtain ⟨m, hm⟩ : ∃ m, punctN R.data.toList = m := ⟨_, rfl⟩
        have hmb := punctN_le R.data.toList
        rw [hm] at hp2 ho2 hmb
        have HPN := Lib.hid (punctLen_is hRs2 hm)
        clear hm
        by_cases h0 : 0 < m
        · have h0i : (0 : Int) < (m : Int) := by omega
          rw [hp2 h0]
          clear hp2 ho2
          go_enter Try.func58, Try.ntmps58
          go_wp2_with (go_at_call 77; (with_reducible refine HC.out.mono ?_); rintro e w1 ⟨rfl, u0, u1, hst, hv0, hv1⟩; have HST := Lib.hid hst; have HV0 := Lib.hid hv0; have HV1 := Lib.hid hv1; have c3 := hst.is.k3; have c4 := hst.is.k4; simp only at c3 c4; clear hst hv0 hv1)
          go_quiet (fail)
          rw [HR.out]
          obtain ⟨w2, hw2⟩ : ∃ w2, w1.drewN nq = w2 := ⟨_, rfl⟩
          have c42 : w2.cell? ⟨g, 4, none⟩ = some (.int .i64 (c.i : Int)) := by rw [← hw2]; exact c4
          have HS2 := Lib.hid (show Step g c { c with u0 := u0, u1 := u1 } w w2 from by rw [← hw2]; exact HST.out.drewN nq)
          rw [hw2]
          clear hw2 c3 c4
          go_wp2_with (first
            | (go_at_call 78; (with_reducible refine (HLE.out _).mono ?_); rintro e w' ⟨rfl, rfl⟩)
            | (go_at_call 80; (with_reducible refine (HD0.out _).mono ?_); rintro e w' ⟨rfl, rfl⟩)
            | (go_at_call 81; (with_reducible refine (HPN.out _).mono ?_); rintro e w' ⟨rfl, rfl⟩))
          go_quiet (fail)
          go_wp2
          go_ret2
          exact tok_fin rfl (by simp) (HS2.out.drewN _) HV0.out HV1.out
        · have h0i : ¬ (0 : Int) < (m : Int) := by omega
          rw [ho2 (by omega)]
          clear hp2 ho2
          go_enter Try.func58, Try.ntmps58
          go_wp2_with (go_at_call 77; (with_reducible refine HC.out.mono ?_); rintro e w1 ⟨rfl, u0, u1, hst, hv0, hv1⟩; have HST := Lib.hid hst; have HV0 := Lib.hid hv0; have HV1 := Lib.hid hv1; have c3 := hst.is.k3; have c4 := hst.is.k4; simp only at c3 c4; clear hst hv0 hv1)
          go_quiet (fail)
          rw [HR.out]
          obtain ⟨w2, hw2⟩ : ∃ w2, w1.drewN nq = w2 := ⟨_, rfl⟩
          have c42 : w2.cell? ⟨g, 4, none⟩ = some (.int .i64 (c.i : Int)) := by rw [← hw2]; exact c4
          have HS2 := Lib.hid (show Step g c { c with u0 := u0, u1 := u1 } w w2 from by rw [← hw2]; exact HST.out.drewN nq)
          rw [hw2]
          clear hw2 c3 c4
          go_wp2_with (first
            | (go_at_call 78; (with_reducible refine (HLE.out _).mono ?_); rintro e w' ⟨rfl, rfl⟩)
            | (go_at_call 80; (with_reducible refine (HD0.out _).mono ?_); rintro e w' ⟨rfl, rfl⟩)
            | (go_at_call 81; (with_reducible refine (HPN.out _).mono ?_); rintro e w' ⟨rfl, rfl⟩))
          go_quiet (fail)
          go_wp2
          go_ret2
          exact tok_fin rfl (by simp) (HS2.out.drewN _) HV0.out HV1.out

theorem token_any {g : Nat} {c : WC} {w : World} (h : WAt g c w) (hs : c.ch.size ≤ 1000000) (hN : Nl c.ch.data.toList) (hi : c.i < c.ch.size) (h10 : c.ch.data.toList.getD c.i 0 ≠ 10) (hu0 : Un c.ch.data.toList c.i 34 c.u0) (hu1 : Un c.ch.data.toList c.i 39 c.u1) :
    Calls Try.prog 58 #[.pointer (some ⟨g, 0, none⟩)] w (tokPost g c (tok (c.ch.data.toList.drop c.i)).1 (c.i + (tok (c.ch.data.toList.drop c.i)).2) w) := by
  rcases Nat.eq_zero_or_pos (conEnd c.ch.data.toList c.i) with he | he
  · exact token_no h hs hN hi h10 hu0 hu1 he
  · exact token_con h hs hN hi hu0 hu1 he

end Go.Proofs.Ytobplffailbkbaa
