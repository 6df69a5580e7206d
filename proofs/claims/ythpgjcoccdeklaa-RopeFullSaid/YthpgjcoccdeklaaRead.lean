/-
  What a rope tells of its lines: Lines, Line, Start; spans; New.
-/
import Derived.Test.YthpgjcoccdeklaaBehind
import Derived.Test.YthpgjcoccdeklaaGrow
import Derived.BigQuiet
import Derived.Deep.QuietTactic
namespace Go.Proofs.Ythpgjcoccdeklaa
open Go.RowKit

theorem behind_any {B : Nat} {M : Mp} {w : World} (h : Inv B [] M w) {p : Option Addr} {o : Option T} (hp : PT M p o) (n : Nat) (hn : n ≤ (otext o).count 10) :
    Calls Try.prog 26 #[.pointer p, .int .i64 (n : Int)] w fun e w' => e = .returned (.int .i64 (behind (otext o) n : Nat)) ∧ St B M w M w' := by
  cases n with
  | zero =>
    have S := Lib.hid (St.refl h)
    clear h hp hn
    rw [behind_zero]
    go_enter Try.func26, Try.ntmps26
    go_wp2
    go_ret
    exact ⟨rfl, S.out⟩
  | succ n =>
    rcases hp with ⟨rfl, rfl⟩ | ⟨b, t, rfl, rfl, hb⟩
    · simp [otext] at hn
    · exact behind_some h hb (n + 1) (by omega) hn

/-- How many line breaks a rope has. -/
def onl (o : Option T) : Nat := (otext o).count 10

theorem onl_le {B : Nat} {L : List Nat} {M : Mp} {w : World} (h : Inv B L M w) {p : Option Addr} {o : Option T} (hp : PT M p o) : onl o ≤ osize o ∧ osize o ≤ lim := by
  rcases hp with ⟨_, rfl⟩ | ⟨b, t, _, rfl, hb⟩
  · exact ⟨Nat.le_refl _, Nat.zero_le _⟩
  · exact ⟨T.nl_le t, (h.full b t hb).2⟩

theorem RP.le {B : Nat} {L : List Nat} {M : Mp} {w : World} (h : Inv B L M w) {r : Option Addr} {o : Option T} (hr : RP M w r o) : onl o ≤ osize o ∧ osize o ≤ lim := by
  rcases hr with ⟨_, rfl⟩ | ⟨b, p, _, _, _, hp⟩
  · exact ⟨Nat.le_refl _, Nat.zero_le _⟩
  · exact onl_le h hp

theorem lines_any {B : Nat} {M : Mp} {w : World} (h : Inv B [] M w) {r : Option Addr} {o : Option T} (hr : RP M w r o) :
    Calls Try.prog 16 #[.pointer r] w fun e w' => e = .returned (.int .i64 ((onl o : Int) + 1)) ∧ St B M w M w' := by
  have hle := hr.le h
  unfold lim at hle
  obtain ⟨h1, h2⟩ := hle
  have H := Lib.hid h
  have HR := Lib.hid hr
  clear h hr
  go_enter Try.func16, Try.ntmps16
  go_wp2_with (first
    | (go_at_call 23; refine (top_any HR.out).mono ?_; rintro e w' ⟨⟨p, rfl, hp⟩, rfl⟩; have HP := Lib.hid hp; clear hp)
    | (go_at_call 27; refine (lineBreaks_any H.out HP.out).mono ?_; rintro e w' ⟨rfl, s⟩; have S := Lib.hid s; clear s; rw [show List.count 10 (otext o) = onl o from rfl]))
  go_ret
  exact ⟨rfl, S.out⟩

/-- Is it 0 <= from <= to <= Len? -/
def spansB (o : Option T) (i j : Int) : Bool := decide (0 ≤ i ∧ i ≤ j ∧ j ≤ osize o)

theorem spansB_yes {o : Option T} {i j : Int} (h : 0 ≤ i ∧ i ≤ j ∧ j ≤ osize o) : spansB o i j = true := decide_eq_true h
theorem spansB_no {o : Option T} {i j : Int} (h : ¬ (0 ≤ i ∧ i ≤ j ∧ j ≤ osize o)) : spansB o i j = false := decide_eq_false h

theorem spans_any {B : Nat} {L : List Nat} {M : Mp} {w : World} (h : Inv B L M w) {r : Option Addr} {o : Option T} (hr : RP M w r o) (i j : Int) (x : Bool) (hx : spansB o i j = x) :
    Calls Try.prog 20 #[.pointer r, .int .i64 i, .int .i64 j] w fun e w' => e = .returned (.bool x) ∧ w = w' := by
  have hle := hr.le h
  unfold lim at hle
  obtain ⟨_, h2⟩ := hle
  have H := Lib.hid h
  have HR := Lib.hid hr
  have HX := Lib.hid hx
  clear h hr hx
  by_cases c1 : 0 ≤ i
  · by_cases c2 : i ≤ j
    · have hz : decide (j ≤ (osize o : Int)) = x := by
        rw [← HX.out]
        unfold spansB
        exact decide_eq_decide.2 ⟨fun h => ⟨c1, c2, h⟩, fun h => h.2.2⟩
      have HZ := Lib.hid hz
      clear hz
      go_enter Try.func20, Try.ntmps20
      go_wp2_with (go_at_call 12; refine (len_any H.out HR.out).mono ?_; rintro e w' ⟨rfl, rfl⟩)
      go_ret
      exact ⟨by rw [← HZ.out]; rfl, rfl⟩
    · have hz : false = x := by rw [← HX.out]; exact (spansB_no (by omega)).symm
      subst hz
      go_enter Try.func20, Try.ntmps20
      go_wp2
      go_ret
      exact ⟨rfl, rfl⟩
  · have hz : false = x := by rw [← HX.out]; exact (spansB_no (by omega)).symm
    subst hz
    go_enter Try.func20, Try.ntmps20
    go_wp2
    go_ret
    exact ⟨rfl, rfl⟩

/-- Line, of a place that there is. -/
theorem line_any {B : Nat} {M : Mp} {w : World} (h : Inv B [] M w) {r : Option Addr} {o : Option T} (hr : RP M w r o) (k : Nat) (hk : k ≤ osize o) :
    Calls Try.prog 14 #[.pointer r, .int .i64 (k : Int)] w fun e w' => e = .returned (.tuple #[.int .i64 (((otext o).take k).count 10 : Nat), .int .i64 ((k : Int) - (behind (otext o) (((otext o).take k).count 10) : Nat)), .int .i64 0]) ∧ St B M w M w' := by
  have hle := hr.le h
  unfold lim at hle
  obtain ⟨_, h2⟩ := hle
  have hnot : ∀ (x : Bool) (w : World), (Op.unary .not (.bool x)).run Try.prog w = .ok (.bool (!x)) w := fun _ _ => rfl
  have hb1 : behind (otext o) (((otext o).take k).count 10) ≤ k := (behind_place (otext o) k).1
  have hc : ((otext o).take k).count 10 ≤ (otext o).count 10 := List.Sublist.count_le _ (List.take_sublist _ _)
  have H := Lib.hid h
  have HR := Lib.hid hr
  obtain ⟨m, hm⟩ : ∃ m, m = ((otext o).take k).count 10 := ⟨_, rfl⟩
  rw [← hm] at hb1 hc ⊢
  have HM := Lib.hid hm
  obtain ⟨q, hq⟩ : ∃ q, q = behind (otext o) m := ⟨_, rfl⟩
  rw [← hq] at hb1 ⊢
  have HQ := Lib.hid hq
  clear h hr hm hq
  go_enter Try.func14, Try.ntmps14
  go_wp2_with (first
    | (go_at_call 20; refine (spans_any H.out HR.out _ _ true (spansB_yes (by omega))).mono ?_; rintro e w' ⟨rfl, rfl⟩)
    | (go_at_call 25; refine (ahead_any H.out HP.out k hk).mono ?_; rintro e w1 ⟨rfl, s1⟩; have S1 := Lib.hid s1; have HR1 := Lib.hid (HR.out.step H.out s1); clear s1; rw [← HM.out])
    | (go_at_call 26; refine (behind_any S1.out.inv HP.out m hc).mono ?_; rintro e w2 ⟨rfl, s2⟩; have S2 := Lib.hid (S1.out.trans s2); clear s2; rw [← HQ.out])
    | (go_at_call 23; first
        | (refine (top_any HR1.out).mono ?_; clear HP; rintro e w' ⟨⟨p, rfl, hp⟩, rfl⟩; have HP := Lib.hid hp; clear hp)
        | (refine (top_any HR.out).mono ?_; rintro e w' ⟨⟨p, rfl, hp⟩, rfl⟩; have HP := Lib.hid hp; clear hp)))
  go_ret3
  exact ⟨rfl, S2.out⟩

theorem line_no {B : Nat} {M : Mp} {w : World} (h : Inv B [] M w) {r : Option Addr} {o : Option T} (hr : RP M w r o) (k : Int) (hk : ¬ (0 ≤ k ∧ k ≤ osize o)) :
    Calls Try.prog 14 #[.pointer r, .int .i64 k] w fun e w' => e = .returned (.tuple #[.int .i64 0, .int .i64 0, .int .i64 1]) ∧ w = w' := by
  have hnot : ∀ (x : Bool) (w : World), (Op.unary .not (.bool x)).run Try.prog w = .ok (.bool (!x)) w := fun _ _ => rfl
  have H := Lib.hid h
  have HR := Lib.hid hr
  clear h hr
  go_enter Try.func14, Try.ntmps14
  go_wp2_with (go_at_call 20; refine (spans_any H.out HR.out _ _ false (spansB_no (by omega))).mono ?_; rintro e w' ⟨rfl, rfl⟩)
  go_ret3
  exact ⟨rfl, rfl⟩

/-- Start, of a line that there is. -/
theorem start_any {B : Nat} {M : Mp} {w : World} (h : Inv B [] M w) {r : Option Addr} {o : Option T} (hr : RP M w r o) (n : Nat) (hn : n ≤ onl o) :
    Calls Try.prog 15 #[.pointer r, .int .i64 (n : Int)] w fun e w' => e = .returned (.tuple #[.int .i64 (behind (otext o) n : Nat), .int .i64 0]) ∧ St B M w M w' := by
  have hle := hr.le h
  unfold lim at hle
  obtain ⟨h1, h2⟩ := hle
  have H := Lib.hid h
  have HR := Lib.hid hr
  have hge : ¬ ((onl o : Int) + 1 ≤ (n : Int)) := by omega
  clear h hr
  go_enter Try.func15, Try.ntmps15
  go_wp2_with (first
    | (go_at_call 16; refine (lines_any H.out HR.out).mono ?_; rintro e w1 ⟨rfl, s1⟩; have S1 := Lib.hid s1; have HR1 := Lib.hid (HR.out.step H.out s1); clear s1)
    | (go_at_call 26; refine (behind_any S1.out.inv HP.out n hn).mono ?_; rintro e w2 ⟨rfl, s2⟩; have S2 := Lib.hid (S1.out.trans s2); clear s2)
    | (go_at_call 23; refine (top_any HR1.out).mono ?_; rintro e w' ⟨⟨p, rfl, hp⟩, rfl⟩; have HP := Lib.hid hp; clear hp))
  go_ret2
  exact ⟨rfl, S2.out⟩

theorem start_no {B : Nat} {M : Mp} {w : World} (h : Inv B [] M w) {r : Option Addr} {o : Option T} (hr : RP M w r o) (n : Int) (hn : ¬ (0 ≤ n ∧ n ≤ onl o)) :
    Calls Try.prog 15 #[.pointer r, .int .i64 n] w fun e w' => e = .returned (.tuple #[.int .i64 0, .int .i64 1]) ∧ St B M w M w' := by
  have hle := hr.le h
  unfold lim at hle
  obtain ⟨h1, h2⟩ := hle
  have H := Lib.hid h
  have HR := Lib.hid hr
  have S0 := Lib.hid (St.refl h)
  clear h hr
  by_cases hneg : n < 0
  · go_enter Try.func15, Try.ntmps15
    go_wp2
    go_ret2
    exact ⟨rfl, S0.out⟩
  · have hge : (onl o : Int) + 1 ≤ n := by omega
    have h0 : 0 ≤ n := by omega
    go_enter Try.func15, Try.ntmps15
    go_wp2_with (go_at_call 16; refine (lines_any H.out HR.out).mono ?_; rintro e w1 ⟨rfl, s1⟩; have S1 := Lib.hid s1; clear s1)
    go_ret2
    exact ⟨rfl, S1.out⟩

end Go.Proofs.Ythpgjcoccdeklaa
