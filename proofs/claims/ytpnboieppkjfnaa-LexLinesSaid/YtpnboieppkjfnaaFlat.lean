/-
  flat of the law, walked.
-/
import Derived.Test.YtpnboieppkjfnaaSmL
import Derived.Test.YtpnboieppkjfnaaRLines
namespace Go.Proofs.Ytpnboieppkjfnaa
open Go.RowKit

theorem flat_ex {W w : World} {v sv : Value} {n : Nat} {xs : List Value} {ty : TypeId} {p : Value × Ln} (h : Up W 64 4 v n xs w) (hs : Src w sv 1 4 (lcell p)) (hp : p.1.oneCell' = true) (hn : n ≤ 500000) :
    ∃ b n' cap w', (Builtin.append_ #[27, 27] ty #[v, sv]).run Try.prog w = .ok (.slice (some ⟨b, 0, none⟩) n' cap) w' ∧ n' = n + 1 ∧ Up W 64 4 (.slice (some ⟨b, 0, none⟩) n' cap) n' (xs ++ lcell p) w' := by
  obtain ⟨i0, hi, hz0, hz1, hz2⟩ := info_parts Try.infoRLine
  obtain ⟨v', w', hr, h2⟩ := app_up (ty := ty) Try.underlying27 hi hz0 hz1 hz2 rfl (by decide) (by decide) h hs (by intro u hu; simp only [lcell, List.mem_cons, List.not_mem_nil, or_false] at hu; rcases hu with rfl | rfl | rfl | rfl <;> first | exact hp | rfl) (by omega)
  obtain ⟨b, cap, hv⟩ := append_form h2.1 (by omega)
  subst hv
  exact ⟨b, _, cap, w', hr, rfl, h2⟩

theorem Up.drew {W w : World} {e : TypeId} {size : Nat} {v : Value} {n : Nat} {xs : List Value} (h : Up W e size v n xs w) : Up W e size v n xs w.drew := Up.over h (Below.refl _ _).drew

def FlRel (w : World) (P : List (Value × Ln)) (o i : Value) (wr : World) : Prop :=
  ∃ (k : Nat) (ob : Option Addr) (on oc : Nat), i = .int .i64 (k : Int) ∧ k ≤ P.length ∧ o = .slice ob on oc ∧ on = k ∧ Up w 64 4 (.slice ob on oc) on (lcells (P.take k)) wr
def FlPost (w : World) (P : List (Value × Ln)) (e : Ending) (w' : World) : Prop :=
  ∃ (a : Option Addr) (n cap : Nat), e = .returned (.slice a n cap) ∧ n = P.length ∧ Up w 64 4 (.slice a n cap) n (lcells P) w'

theorem take_get {P : List (Value × Ln)} {k : Nat} {p : Value × Ln} (h : P[k]? = some p) : P.take (k + 1) = P.take k ++ [p] := by
  rw [List.take_add_one, h]
  rfl

theorem fl_on {w wr : World} {P : List (Value × Ln)} {k b n cap : Nat} {p : Value × Ln} {i : Int} (hp : P[k]? = some p) (hn : n = k + 1) (h : Up w 64 4 (.slice (some ⟨b, 0, none⟩) n cap) n (lcells (P.take k) ++ lcell p) wr) (hi : i = ((k + 1 : Nat) : Int)) : FlRel w P (.slice (some ⟨b, 0, none⟩) n cap) (.int .i64 i) wr := by
  subst hi
  exact ⟨k + 1, _, n, cap, rfl, (List.getElem?_eq_some_iff.1 hp).1, rfl, hn, by rw [take_get hp, lcells_snoc]; exact h⟩

set_option maxRecDepth 100000 in
set_option maxHeartbeats 6400000 in
theorem flat_any {W w : World} {v : Value} {P : List (Value × Ln)} (h : Up W 36 4 v P.length (lcells P) w) (hP : ∀ p ∈ P, ∃ ta tn tc, p.1 = .slice ta tn tc) (hl : P.length ≤ 500000) : Calls Try.prog 12 #[v] w (FlPost w P) := by
  obtain ⟨a, cap, rfl, hc1, hc2, hcell⟩ := row_form h.1
  have HC := Lib.hid hcell
  have HP := Lib.hid hP
  unfold maxLen at hc2
  have HS0 : Hid (FlRel w P (.slice none 0 0) (.int .i64 0) w) := Lib.hid ⟨0, none, 0, 0, rfl, Nat.zero_le _, rfl, rfl, up_nil w _ 4⟩
  clear h hcell hP
  go_enter Try.func12, Try.ntmps12
  go_wp2
  go_loopw [3, 4] (fun o i wr => FlRel w P o i wr) (fun _ i _ => P.length - (intOf i).toNat)
  case atStart => exact HS0.out
  case round =>
    obtain ⟨k, ob, on, oc, rfl, hk, rfl, hon, hU⟩ := hrel
    have HU := Lib.hid hU
    have HON := Lib.hid hon
    have hon2 : on ≤ 500000 := by omega
    clear hU hon
    by_cases hlt : k < P.length
    · obtain ⟨⟨pv, ln⟩, hp⟩ : ∃ p, P[k]? = some p := ⟨_, List.getElem?_eq_getElem hlt⟩
      obtain ⟨ta, tn, tc, hpv⟩ := HP.out _ (List.mem_of_getElem? hp)
      simp only at hpv
      subst hpv
      have hg := fun j (hj : j < 4) => flat_get (f := lcell) (n := 4) (fun _ => rfl) P k _ hp j hj
      obtain ⟨g, hga, hgl, d0⟩ := HC.out (k * 4 + 0) _ ((hg 0 (by omega)).trans rfl)
      obtain ⟨g1, hga1, -, d1⟩ := HC.out (k * 4 + 1) _ ((hg 1 (by omega)).trans rfl)
      obtain ⟨g2, hga2, -, d2⟩ := HC.out (k * 4 + 2) _ ((hg 2 (by omega)).trans rfl)
      obtain ⟨g3, hga3, -, d3⟩ := HC.out (k * 4 + 3) _ ((hg 3 (by omega)).trans rfl)
      subst hga
      simp only [Option.some.injEq, Addr.mk.injEq, and_true] at hga1 hga2 hga3
      subst hga1 hga2 hga3
      have e0 : wr.cell? ⟨g, k * 4, none⟩ = some (.slice ta tn tc) := bcell HU.out.2 d0 hgl
      have e1 : wr.cell? ⟨g, k * 4 + 1, none⟩ = some (.int .i64 (ln.f : Int)) := bcell HU.out.2 d1 hgl
      have e2 : wr.cell? ⟨g, k * 4 + 2, none⟩ = some (.int .i64 (ln.t : Int)) := bcell HU.out.2 d2 hgl
      have e3 : wr.cell? ⟨g, k * 4 + 3, none⟩ = some (.bool ln.o) := bcell HU.out.2 d3 hgl
      have hki : (k : Int) < (P.length : Int) := by omega
      have hk0 : (0 : Int) ≤ (k : Int) := by omega
      have HPK := Lib.hid hp
      clear hg d0 d1 d2 d3 hp
      go_wp2
      go_region_law (first
        | (refine step_ex rfl (.tmp 11) (.tmp 33) 27 rfl _ _ _ rfl rfl (flat_ex (W := w) (v := .slice ob on oc) (n := on) (xs := lcells (P.take k)) (p := (.slice ta tn tc, ln)) ?_ ?_ rfl hon2) ?_
           · (repeat first | (with_reducible apply Up.drew) | (with_reducible apply Up.alloc)); (with_reducible exact HU.out)
           · exact src_row (heap_drew (heap_alloc_new _ _)) rfl rfl
           intro b4 n4 cap4 w4 hp4
           have HP4 := Lib.hid hp4.2
           have HN4 := Lib.hid hp4.1
           clear hp4))
      all_goals go_wp2
      all_goals go_roundw
      all_goals first
        | exact fl_on HPK.out (by rw [HN4.out, HON.out]) HP4.out (by simp)
        | (simp [intOf]; omega)
    · have hki : ¬ (k : Int) < (P.length : Int) := by omega
      go_wp2
      go_ret
      have hU := HU.out
      rw [List.take_of_length_le (by omega)] at hU
      exact ⟨ob, on, oc, rfl, by have := HON.out; omega, hU⟩

end Go.Proofs.Ytpnboieppkjfnaa
