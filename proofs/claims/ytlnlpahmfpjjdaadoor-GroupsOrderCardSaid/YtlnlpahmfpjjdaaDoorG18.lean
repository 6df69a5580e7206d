/-
  Texts of the proof, put together: GrSame, GrInts.
-/
import Derived.Test.YtlnlpahmfpjjdaaDoorG13
import Derived.StillTailTactics

/-
  Ints and SameItems, of what is the same.
-/
namespace Go.Proofs.YtlnlpahmfpjjdaaDoor
open Go.RowKit

/-- Numbers, as they are read. -/
def IntsR (xs : List Int) (v : Value) (w : World) : Prop :=
  ∃ a cap, v = .slice a xs.length cap ∧ xs.length ≤ cap ∧ cap ≤ maxLen ∧ ∀ j x, xs[j]? = some x → ∃ g o, a = some ⟨g, o, none⟩ ∧ g < w.heap.size ∧ w.cell? ⟨g, o + j, none⟩ = some (.int .i64 x)
theorem IntsR.over {xs : List Int} {v : Value} {w w' : World} (h : IntsR xs v w) (b : Below w.heap.size w w') : IntsR xs v w' := by
  obtain ⟨a, cap, hv, h1, h2, h3⟩ := h
  refine ⟨a, cap, hv, h1, h2, fun j x hx => ?_⟩
  obtain ⟨g, o, ha, hg, hc⟩ := h3 j x hx
  exact ⟨g, o, ha, Nat.lt_of_lt_of_le hg b.size, bcell b hc hg⟩
theorem IntsR.form {xs : List Int} {v : Value} {w : World} (h : IntsR xs v w) : ∃ a n cap, v = .slice a n cap ∧ n = xs.length ∧ n ≤ cap ∧ cap ≤ maxLen := by
  obtain ⟨a, cap, hv, h1, h2, -⟩ := h
  exact ⟨a, _, cap, hv, rfl, h1, h2⟩
theorem IntsR.get {xs : List Int} {a : Option Addr} {n cap : Nat} {w : World} (h : IntsR xs (.slice a n cap) w) {j : Nat} {x : Int} (hj : xs[j]? = some x) : ∃ g o, a = some ⟨g, o, none⟩ ∧ g < w.heap.size ∧ w.cell? ⟨g, o + j, none⟩ = some (.int .i64 x) := by
  obtain ⟨a', cap', hv, -, -, h3⟩ := h
  simp only [Value.slice.injEq] at hv
  obtain ⟨g, o, ha, hg, hc⟩ := h3 j x hj
  exact ⟨g, o, by rw [hv.1]; exact ha, hg, hc⟩

set_option maxRecDepth 100000 in
set_option maxHeartbeats 1600000 in
theorem ints_any {xs : List Int} {v v' : Value} {w : World} (h : IntsR xs v w) (h' : IntsR xs v' w) : Calls Tryd.prog 29 #[v, v'] w (TruePost w) := by
  obtain ⟨a, n, cap, rfl, hn, hc1, hc2⟩ := h.form
  obtain ⟨a', n', cap', rfl, hn', hc1', hc2'⟩ := h'.form
  obtain rfl : n = n' := hn.trans hn'.symm
  unfold maxLen at hc2 hc2'
  have HX := Lib.hid h
  have HX' := Lib.hid h'
  have HN := Lib.hid hn
  clear h h' hn hn'
  go_enter Tryd.func29, Tryd.ntmps29
  go_wp2
  go_loopw [5] (fun i wr => ∃ k : Nat, i = .int .i64 (k : Int) ∧ k ≤ n ∧ Below w.heap.size w wr) (fun i _ => n - (intOf i).toNat)
  case atStart => exact ⟨0, rfl, Nat.zero_le _, Below.refl _ _⟩
  case round =>
    obtain ⟨k, rfl, hk, hb⟩ := hrel
    by_cases hlt : k < n
    · obtain ⟨x, hx⟩ : ∃ x, xs[k]? = some x := ⟨_, List.getElem?_eq_getElem (by rw [← HN.out]; exact hlt)⟩
      obtain ⟨g, o, rfl, hg, hc⟩ := HX.out.get hx
      obtain ⟨g', o', rfl, hg', hc'⟩ := HX'.out.get hx
      have e0 := bcell hb hc hg
      have f0 := bcell hb hc' hg'
      have hkI : (k : Int) < (n : Int) := by omega
      have hk0 : (0 : Int) ≤ (k : Int) := by omega
      have HB := Lib.hid hb
      clear hb hx hc hc'
      go_wp2
      go_quiet (fail)
      go_wp2
      go_roundw
      case rel => exact ⟨k + 1, by go_num, hlt, HB.out.trans ((Below.of_drews _ _).mono HB.out.size)⟩
      case measure => simp [intOf]; omega
    · have hkI : ¬ (k : Int) < (n : Int) := by omega
      go_wp2
      go_ret
      exact ⟨rfl, hb⟩

set_option maxRecDepth 100000 in
set_option maxHeartbeats 6400000 in
theorem sameItems_step {R S : RelI} (hF : Formed R) (hG : Formed S) (oR : Over R) (oS : Over S) (hRS : ∀ l v v' w, R l v w → S l v' w → Calls Tryd.prog 26 #[v, v'] w (TruePost w)) {l : List Itm} {v v' : Value} {w : World} (h : ItsOf R l v w) (h' : ItsOf S l v' w) :
    Calls Tryd.prog 26 #[v, v'] w (TruePost w) := by
  obtain ⟨a, n, cap, rfl, hn, hc1, hc2⟩ := h.form
  obtain ⟨a', n', cap', rfl, hn', hc1', hc2'⟩ := h'.form
  obtain rfl : n = n' := hn.trans hn'.symm
  unfold maxLen at hc2 hc2'
  have HX := Lib.hid h
  have HX' := Lib.hid h'
  have HN := Lib.hid hn
  have HRS := Lib.hid hRS
  have HF := Lib.hid hF
  have HG := Lib.hid hG
  have HOR := Lib.hid oR
  have HOS := Lib.hid oS
  clear h h' hn hn' hRS hF hG oR oS
  go_enter Tryd.func26, Tryd.ntmps26
  go_wp2
  go_loopw [5] (fun i wr => ∃ k : Nat, i = .int .i64 (k : Int) ∧ k ≤ n ∧ Below w.heap.size w wr) (fun i _ => n - (intOf i).toNat)
  case atStart => exact ⟨0, rfl, Nat.zero_le _, Below.refl _ _⟩
  case round =>
    obtain ⟨k, rfl, hk, hb⟩ := hrel
    by_cases hlt : k < n
    · obtain ⟨it, hit⟩ : ∃ it, l[k]? = some it := ⟨_, List.getElem?_eq_getElem (by rw [← HN.out]; exact hlt)⟩
      obtain ⟨g, o, aa, an, ac, rfl, hg, han, hac1, hac2, ⟨c0, c1, c2⟩, hr⟩ := HX.out.get hit
      obtain ⟨g', o', aa', an', ac', rfl, hg', han', hac1', hac2', ⟨c0', c1', c2'⟩, hr'⟩ := HX'.out.get hit
      obtain rfl : an = an' := han.trans han'.symm
      have HC2 : Hid (w.cell? ⟨g, o + k * 3 + 2, none⟩ = some (.slice aa an ac) ∧ w.cell? ⟨g', o' + k * 3 + 2, none⟩ = some (.slice aa' an ac')) := Lib.hid ⟨c2, c2'⟩
      have e0 := bcell hb c0 hg
      have e1 := bcell hb c1 hg
      have e2 := bcell hb c2 hg
      have f0 := bcell hb c0' hg'
      have f1 := bcell hb c1' hg'
      have f2 := bcell hb c2' hg'
      have hkI : (k : Int) < (n : Int) := by omega
      have hk0 : (0 : Int) ≤ (k : Int) := by omega
      have HB := Lib.hid hb
      have HAN := Lib.hid han
      have HAR := Lib.hid hr
      have HAR' := Lib.hid hr'
      unfold maxLen at hac2 hac2'
      clear hb hit c0 c1 c2 c0' c1' c2' han han' hr hr'
      go_wp2
      go_quiet (fail)
      clear e0 e1 e2 f0 f1 f2
      have HBQ : Hid (Below w.heap.size w (wr.drewN nq)) := Lib.hid (HB.out.trans ((Below.of_drews _ _).mono HB.out.size))
      obtain ⟨wq, hwq⟩ : ∃ wq, wr.drewN nq = wq := ⟨_, rfl⟩
      rw [hwq] at HBQ ⊢
      clear hwq
      go_wp2
      go_loopw [6] (fun i wi => ∃ j : Nat, i = .int .i64 (j : Int) ∧ j ≤ an ∧ Below w.heap.size w wi) (fun i _ => an - (intOf i).toNat)
      case atStart => exact ⟨0, rfl, Nat.zero_le _, HBQ.out⟩
      case round =>
        obtain ⟨j, rfl, hj, hbi⟩ := hrel
        have e2 := bcell hbi HC2.out.1 hg
        have f2 := bcell hbi HC2.out.2 hg'
        have HBI := Lib.hid hbi
        clear hbi
        by_cases hltj : j < an
        · obtain ⟨x, hx⟩ : ∃ x, it.arms[j]? = some x := ⟨_, List.getElem?_eq_getElem (by rw [← HAN.out]; exact hltj)⟩
          obtain ⟨p, q, ia, im, ic, rfl, hp, ⟨d0, d1⟩, hr2⟩ := HAR.out.get HF.out hx
          obtain ⟨p', q', ia', im', ic', rfl, hp', ⟨d0', d1'⟩, hr2'⟩ := HAR'.out.get HG.out hx
          have g0 := bcell HBI.out d0 hp
          have g1 := bcell HBI.out d1 hp
          have h0 := bcell HBI.out d0' hp'
          have h1 := bcell HBI.out d1' hp'
          have HS : Hid (∀ X : World, Below w.heap.size w X → Calls Tryd.prog 26 #[.slice ia im ic, .slice ia' im' ic'] X (TruePost X)) := Lib.hid (fun X hX => HRS.out _ _ _ _ (HOR.out _ _ _ _ hr2 hX) (HOS.out _ _ _ _ hr2' hX))
          have hjI : (j : Int) < (an : Int) := by omega
          have hj0 : (0 : Int) ≤ (j : Int) := by omega
          clear hx hr2 hr2' d0 d1 d0' d1'
          go_wp2
          go_still_tail 38, (by kernel_rfl)
          change wpList _ _ _ _ _ wr.drew
          have HB2 : Hid (Below w.heap.size w wr.drew) := Lib.hid HBI.out.drew
          obtain ⟨w2, hw2⟩ : ∃ w2, wr.drew = w2 := ⟨_, rfl⟩
          rw [hw2] at HB2 ⊢
          clear hw2 e2 f2 g0 g1 h0 h1
          go_wp2_with (go_at_call 26; (with_reducible refine (HS.out _ HB2.out).mono ?_); rintro e w3 ⟨rfl, hb3⟩; have HB3 := Lib.hid hb3; clear hb3)
          go_roundw
          case rel => exact ⟨j + 1, by go_num, hltj, HB2.out.trans (HB3.out.mono HB2.out.size)⟩
          case measure => simp [intOf]; omega
        · have hjI : ¬ (j : Int) < (an : Int) := by omega
          go_wp2
          go_roundw
          case rel => exact ⟨k + 1, by go_num, hlt, HBI.out⟩
          case measure => simp [intOf]; omega
    · have hkI : ¬ (k : Int) < (n : Int) := by omega
      go_wp2
      go_ret
      exact ⟨rfl, hb⟩

theorem sameItems_any : ∀ (d e : Nat) (l : List Itm) (v v' : Value) (w : World), ItsAt d l v w → ItsAt e l v' w → Calls Tryd.prog 26 #[v, v'] w (TruePost w)
  | 0, 0, _, _, _, _, h, h' => sameItems_step (fun _ _ _ h => h.elim) (fun _ _ _ h => h.elim) (fun _ _ _ _ h _ => h.elim) (fun _ _ _ _ h _ => h.elim) (fun _ _ _ _ h _ => h.elim) h h'
  | 0, e + 1, _, _, _, _, h, h' => sameItems_step (fun _ _ _ h => h.elim) (itsAt_form e) (fun _ _ _ _ h _ => h.elim) (itsAt_over e) (fun _ _ _ _ h _ => h.elim) h h'
  | d + 1, 0, _, _, _, _, h, h' => sameItems_step (itsAt_form d) (fun _ _ _ h => h.elim) (itsAt_over d) (fun _ _ _ _ h _ => h.elim) (fun _ _ _ _ _ h => h.elim) h h'
  | d + 1, e + 1, _, _, _, _, h, h' => sameItems_step (itsAt_form d) (itsAt_form e) (itsAt_over d) (itsAt_over e) (fun l v v' w => sameItems_any d e l v v' w) h h'

end Go.Proofs.YtlnlpahmfpjjdaaDoor

/-
  Rows of numbers that a call owns, as great as may be.
-/
namespace Go.Proofs.YtlnlpahmfpjjdaaDoor
open Go.RowKit

def ivals (xs : List Int) : List Value := xs.map fun x => .int .i64 x
theorem ivals_app (a b : List Int) : ivals (a ++ b) = ivals a ++ ivals b := by simp [ivals]
theorem ivals_one (xs : List Int) : ∀ u ∈ ivals xs, u.oneCell' = true := by
  intro u hu
  obtain ⟨x, -, rfl⟩ := List.mem_map.1 hu
  rfl
theorem Tryd.infoNum : (Tryd.prog.info? 3).map (fun i => (i.zero, i.size, i.bytes)) = some (some (.int .i64 0), 1, 8) := by kernel_rfl

/-- Appended to a row of its own. -/
theorem ints_app {W w : World} {ty : TypeId} {v sv : Value} {n m : Nat} {xs ys : List Int} (h : Up W 3 1 v n (ivals xs) w) (hs : Src w sv m 1 (ivals ys)) (hn : n + m ≤ 17592186044416) :
    ∃ v' w', (Builtin.append_ #[54, 54] ty #[v, sv]).run Tryd.prog w = .ok v' w' ∧ Up W 3 1 v' (n + m) (ivals (xs ++ ys)) w' := by
  obtain ⟨i0, hi, hz0, hz1, hz2⟩ := info_parts Tryd.infoNum
  rw [ivals_app]
  rcases hs with ⟨rfl, rfl, hnil⟩ | ⟨ad, c, rfl, hl, hc⟩
  · rw [hnil, List.append_nil]
    exact ⟨v, w, run_append_owned_none (P := Tryd.prog) (w := w) W.heap.size 54 ty 3 i0 1 Tryd.underlying54 hi v n _ h.1, h.1, h.2⟩
  · obtain ⟨v', w', hr, h2, h3, -⟩ := run_append_own (P := Tryd.prog) w W.heap.size 54 ty 3 i0 (.int .i64 0) 1 8 Tryd.underlying54 hi hz0 hz1 hz2 rfl (by decide) v n _ h.1 ad m c (ivals ys) hl hc (ivals_one ys) (by unfold maxLen; omega) (by omega) h.2.size
    exact ⟨v', w', hr, h2, h.2.grown h3 h.2.size fun k hk => (World.ownsRow.lt h.1 k hk).1⟩
/-- .. where something is there behind it. -/
def IntsUp (W : World) (m : Nat) (zs : List Int) (b n cap : Nat) (w' : World) : Prop := n = m ∧ Up W 3 1 (.slice (some ⟨b, 0, none⟩) n cap) n (ivals zs) w'
theorem ints_ex {W w : World} {ty : TypeId} {v sv : Value} {n m : Nat} {xs ys : List Int} (h : Up W 3 1 v n (ivals xs) w) (hs : Src w sv m 1 (ivals ys)) (h0 : 0 < n + m) (hn : n + m ≤ 17592186044416) :
    ∃ b n' cap w', (Builtin.append_ #[54, 54] ty #[v, sv]).run Tryd.prog w = .ok (.slice (some ⟨b, 0, none⟩) n' cap) w' ∧ IntsUp W (n + m) (xs ++ ys) b n' cap w' := by
  obtain ⟨v', w', hr, hu⟩ := ints_app (ty := ty) h hs hn
  obtain ⟨b, cap, rfl⟩ := append_form hu.1 h0
  exact ⟨b, _, cap, w', hr, rfl, hu⟩
theorem ints_read {W w : World} {v : Value} {n : Nat} {xs : List Int} (h : Up W 3 1 v n (ivals xs) w) : IntsR xs v w := by
  obtain ⟨a, cap, hv, h1, h2, h3⟩ := row_form h.1
  have hl : xs.length = n := by
    have := h.1.1
    simpa [ivals] using this
  refine ⟨a, cap, by rw [hl]; exact hv, by omega, h2, fun j x hx => ?_⟩
  obtain ⟨g, ha, hg, hc⟩ := h3 j (.int .i64 x) (by unfold ivals; rw [List.getElem?_map, hx]; rfl)
  exact ⟨g, 0, ha, hg, by rw [Nat.zero_add]; exact hc⟩

def FlatPost (W : World) (ys : List Int) (e : Ending) (w' : World) : Prop := ∃ a n cap, e = .returned (.slice a n cap) ∧ n = ys.length ∧ Up W 3 1 (.slice a n cap) n (ivals ys) w'

end Go.Proofs.YtlnlpahmfpjjdaaDoor
