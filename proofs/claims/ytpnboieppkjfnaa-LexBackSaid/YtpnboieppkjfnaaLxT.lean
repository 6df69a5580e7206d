/-
  constant and token of the project, walked.
-/
import Derived.Test.YtpnboieppkjfnaaLxQ
namespace Go.Proofs.Ytpnboieppkjfnaa
open Go.RowKit

/-- What token and constant answer, and that of the walk only what is known of quotes has turned. -/
def tokPost (g : Nat) (c : WC) (k r : Nat) (w : World) (e : Ending) (w' : World) : Prop :=
  e = .returned (.tuple #[.int .i64 (k : Int), .int .i64 (r : Int)]) ∧ ∃ u0 u1, Step g c { c with u0 := u0, u1 := u1 } w w' ∧ Un c.ch.data.toList c.i 34 u0 ∧ Un c.ch.data.toList c.i 39 u1

theorem tokPost.of_closed {g : Nat} {c : WC} {k r n : Nat} {w w1 : World} {e : Ending} {x y : Int} (hx : x = (k : Int)) (h : closedPost g c r (w.drewN n) e w1) (hy : e = .returned (.int .i64 y)) (hA : WAt g c w) : tokPost g c k r w (.returned (.tuple #[.int .i64 x, .int .i64 y])) w1 := by
  obtain ⟨he, u0, u1, hs, h0, h1⟩ := h
  rw [hy] at he
  simp only [Ending.returned.injEq, Value.int.injEq, true_and] at he
  subst he hx
  exact ⟨rfl, u0, u1, ((Step.refl hA).drewN n).trans hs, h0, h1⟩

/-- The constant at a place: its kind, and its end; 0, if there is none. -/
def conEnd (l : List UInt8) (i : Nat) : Nat := match conN (l.drop i) with
  | some x => i + x.2
  | none => 0
def conKind (l : List UInt8) (i : Nat) : Nat := if l.getD (i + lettN (l.drop i)) 0 = 34 then 4 else if l.getD (i + lettN (l.drop i)) 0 = 39 then 3 else 0

theorem con_str {l : List UInt8} {i : Nat} (h : l.getD (i + lettN (l.drop i)) 0 = 34) : conEnd l i = qEnd l 34 (i + lettN (l.drop i)) := by
  unfold conEnd conN qEnd
  rw [getD_drop, if_pos h, List.drop_drop]
  rw [show i + (lettN (l.drop i) + 1) = i + lettN (l.drop i) + 1 from by omega]
  cases qN 34 false (l.drop (i + lettN (l.drop i) + 1)) with
  | none => rfl
  | some n => simp; omega
theorem con_chr {l : List UInt8} {i : Nat} (h : l.getD (i + lettN (l.drop i)) 0 = 39) : conEnd l i = qEnd l 39 (i + lettN (l.drop i)) := by
  unfold conEnd conN qEnd
  rw [getD_drop, if_neg (by rw [h]; decide), if_pos h, List.drop_drop]
  rw [show i + (lettN (l.drop i) + 1) = i + lettN (l.drop i) + 1 from by omega]
  cases qN 39 false (l.drop (i + lettN (l.drop i) + 1)) with
  | none => rfl
  | some n => simp; omega
theorem con_no {l : List UInt8} {i : Nat} (h : l.getD (i + lettN (l.drop i)) 0 ≠ 34) (h2 : l.getD (i + lettN (l.drop i)) 0 ≠ 39) : conEnd l i = 0 := by
  unfold conEnd conN
  rw [getD_drop, if_neg h, if_neg h2]

theorem lett_lt {l : List UInt8} (hN : Nl l) : lettN l < l.length := by
  have h0 := hN.1
  rcases lettN_is l with h | h | h
  · omega
  · have : l.getD 1 0 ≠ 0 := by rcases h.2.2 with e | e <;> (rw [e]; decide)
    have := getD_lt this
    omega
  · have := getD_lt (l := l) (i := 2) (by rw [h.2.2.2]; decide)
    omega

theorem lett_ne {l : List UInt8} {i j : Nat} {q : UInt8} (hq : isWord q = false) (h1 : i ≤ j) (h2 : j < i + lettN (l.drop i)) : l.getD j 0 ≠ q := by
  intro e
  have h := lettN_in (l.drop i) (j - i) (by omega)
  rw [getD_drop, show i + (j - i) = j from by omega, e, hq] at h
  cases h

theorem ext_data (s : ByteArray) (a b : Nat) : (s.extract a b).data.toList = (s.data.toList.drop a).take (b - a) := by
  obtain ⟨⟨l⟩⟩ := s
  rw [ByteArray.extract_mk]
theorem ext_end (s : ByteArray) (a : Nat) : (s.extract a s.size).data.toList = s.data.toList.drop a := by
  rw [ext_data, List.take_of_length_le]
  rw [List.length_drop, len_byte]
  exact Nat.le_refl _

theorem lettersAhead_at (s : ByteArray) (i : Nat) (hs : s.size ≤ 1000000) (hN : Nl s.data.toList) (hi : i < s.size) {n : Nat} (hn : lettN (s.data.toList.drop i) = n) (W : World) : Calls Try.prog 57 #[.string (s.extract i s.size)] W (NatPost n W) := by
  have h := lettersAhead_any (s.extract i s.size) W (by rw [ByteArray.size_extract]; omega) (by rw [ext_end]; exact hN.drop (by rw [len_byte]; exact hi))
  rw [ext_end, hn] at h
  exact h

set_option maxRecDepth 100000 in
set_option maxHeartbeats 3200000 in
theorem constant_any {g : Nat} {c : WC} {w : World} (h : WAt g c w) (hs : c.ch.size ≤ 1000000) (hN : Nl c.ch.data.toList) (hi : c.i < c.ch.size) (hu0 : Un c.ch.data.toList c.i 34 c.u0) (hu1 : Un c.ch.data.toList c.i 39 c.u1) :
    Calls Try.prog 48 #[.pointer (some ⟨g, 0, none⟩)] w (tokPost g c (conKind c.ch.data.toList c.i) (conEnd c.ch.data.toList c.i) w) := by
  have c3 := h.k3
  have c4 := h.k4
  obtain ⟨n, hn⟩ : ∃ n, lettN (c.ch.data.toList.drop c.i) = n := ⟨_, rfl⟩
  have hnl : c.i + n < c.ch.size := by
    have := lett_lt (hN.drop (i := c.i) (by rw [len_byte]; exact hi))
    rw [hn, List.length_drop, len_byte] at this
    omega
  have HL := Lib.hid (lettersAhead_at c.ch c.i hs hN hi hn)
  have hK : conKind c.ch.data.toList c.i = if c.ch[c.i + n] = 34 then 4 else if c.ch[c.i + n] = 39 then 3 else 0 := by
    unfold conKind
    rw [hn, get_byte c.ch _ hnl]
  have hE4 := con_str (l := c.ch.data.toList) (i := c.i)
  have hE3 := con_chr (l := c.ch.data.toList) (i := c.i)
  have hE0 := con_no (l := c.ch.data.toList) (i := c.i)
  have hne := fun (q : UInt8) (hq : isWord q = false) (j : Nat) => lett_ne (l := c.ch.data.toList) (i := c.i) (j := j) hq
  rw [hn, get_byte c.ch _ hnl] at hE4 hE3 hE0
  rw [hn] at hne
  have hle : c.i ≤ c.i + n := Nat.le_add_right _ _
  have HC4 : Hid (c.ch[c.i + n] = 34 → ∀ W : World, WAt g c W → Calls Try.prog 58 #[.pointer (some ⟨g, 0, none⟩), .int .i64 ((c.i : Int) + (n : Int)), .int .i64 0] W (closedPost g c (qEnd c.ch.data.toList 34 (c.i + n)) W)) := Lib.hid (fun hq W hW => closed0_any hW (c.i + n) hs hN hle (by rw [get_byte c.ch _ hnl]; exact hq) (hne 34 (by decide)) hu0 hu1)
  have HC3 : Hid (c.ch[c.i + n] = 39 → ∀ W : World, WAt g c W → Calls Try.prog 58 #[.pointer (some ⟨g, 0, none⟩), .int .i64 ((c.i : Int) + (n : Int)), .int .i64 1] W (closedPost g c (qEnd c.ch.data.toList 39 (c.i + n)) W)) := Lib.hid (fun hq W hW => closed1_any hW (c.i + n) hs hN hle (by rw [get_byte c.ch _ hnl]; exact hq) (hne 39 (by decide)) hu0 hu1)
  have HA := Lib.hid h
  have HU0 := Lib.hid hu0
  have HU1 := Lib.hid hu1
  clear h hne hn hN hu0 hu1
  have hii : (c.i : Int) < (c.ch.size : Int) := by omega
  have hii2 : (c.i : Int) ≤ (c.ch.size : Int) := by omega
  have hi0 : (0 : Int) ≤ (c.i : Int) := by omega
  have hni : (c.i : Int) + (n : Int) < (c.ch.size : Int) := by omega
  have hn0 : (0 : Int) ≤ (c.i : Int) + (n : Int) := by omega
  have htn : ((c.i : Int) + (n : Int)).toNat = c.i + n := by omega
  have HTN := Lib.hid htn
  clear htn
  rw [hK]
  by_cases h4 : c.ch[c.i + n] = 34
  · have hb : (((c.ch[c.i + n].toNat : Nat) : Int) == 34) = true := by rw [h4]; rfl
    rw [if_pos h4, hE4 h4]
    have HC := Lib.hid (HC4.out h4)
    clear hK hE4 hE3 hE0 h4
    go_enter Try.func48, Try.ntmps48
    go_wp2
    go_quiet ((go_at_call 57; exact quiet_nat (HL.out _)))
    go_wp2_with (go_at_call 58; (with_reducible refine (HC.out _ (HA.out.drewN _)).mono ?_); rintro e w1 ⟨rfl, u0, u1, hst, hv0, hv1⟩; have HST := Lib.hid hst; have HV0 := Lib.hid hv0; have HV1 := Lib.hid hv1; clear hst hv0 hv1)
    go_ret2
    exact ⟨rfl, u0, u1, ((Step.refl HA.out).drewN _).trans HST.out, HV0.out, HV1.out⟩
  · have hb : (((c.ch[c.i + n].toNat : Nat) : Int) == 34) = false := byte_neB (n := 34) (by omega) h4
    rw [if_neg h4]
    by_cases h3 : c.ch[c.i + n] = 39
    · have hb3 : (((c.ch[c.i + n].toNat : Nat) : Int) == 39) = true := by rw [h3]; rfl
      rw [if_pos h3, hE3 h3]
      have HC := Lib.hid (HC3.out h3)
      clear hK hE4 hE3 hE0 h4 h3
      go_enter Try.func48, Try.ntmps48
      go_wp2
      go_quiet ((go_at_call 57; exact quiet_nat (HL.out _)))
      go_wp2_with (go_at_call 58; (with_reducible refine (HC.out _ (HA.out.drewN _)).mono ?_); rintro e w1 ⟨rfl, u0, u1, hst, hv0, hv1⟩; have HST := Lib.hid hst; have HV0 := Lib.hid hv0; have HV1 := Lib.hid hv1; clear hst hv0 hv1)
      go_ret2
      exact ⟨rfl, u0, u1, ((Step.refl HA.out).drewN _).trans HST.out, HV0.out, HV1.out⟩
    · have hb3 : (((c.ch[c.i + n].toNat : Nat) : Int) == 39) = false := byte_neB (n := 39) (by omega) h3
      rw [if_neg h3, hE0 h4 h3]
      clear hK hE4 hE3 hE0 h4 h3
      go_enter Try.func48, Try.ntmps48
      go_wp2
      go_quiet ((go_at_call 57; exact quiet_nat (HL.out _)))
      go_wp2
      go_ret2
      exact ⟨rfl, c.u0, c.u1, (Step.refl HA.out).drewN _, HU0.out, HU1.out⟩

theorem tok_con {l : List UInt8} {i : Nat} (h : 0 < conEnd l i) : conKind l i = (tok (l.drop i)).1 ∧ conEnd l i = i + (tok (l.drop i)).2 := by
  unfold conEnd at h ⊢
  unfold tok
  cases hc : conN (l.drop i) with
  | none => rw [hc] at h; simp at h
  | some x =>
    refine ⟨?_, rfl⟩
    show conKind l i = x.1
    unfold conN at hc
    unfold conKind
    rw [getD_drop] at hc
    split at hc
    · rename_i h1
      rw [if_pos h1]
      rw [Option.map_eq_some_iff] at hc
      obtain ⟨n, -, rfl⟩ := hc
      rfl
    · rename_i h1
      rw [if_neg h1]
      split at hc
      · rename_i h2
        rw [if_pos h2]
        rw [Option.map_eq_some_iff] at hc
        obtain ⟨n, -, rfl⟩ := hc
        rfl
      · cases hc
theorem tok_word {l : List UInt8} {i : Nat} (h : conEnd l i = 0) (hl : isLet (l.getD i 0) = true) : tok (l.drop i) = (1, wordN ((l.drop i).drop 1) + 1) := by
  unfold conEnd at h
  unfold tok
  cases hc : conN (l.drop i) with
  | none =>
    show (if _ then _ else _) = _
    rw [getD_drop, Nat.add_zero, if_pos hl]
  | some x =>
    rw [hc] at h
    have := conN_in hc
    simp at h
    omega

end Go.Proofs.Ytpnboieppkjfnaa
