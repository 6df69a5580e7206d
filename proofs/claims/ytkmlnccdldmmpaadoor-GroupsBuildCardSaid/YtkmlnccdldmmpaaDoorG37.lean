/-
  Texts of the proof, put together: GrLight, GrBound.
-/
import Derived.Test.YtkmlnccdldmmpaaDoorG12
import Derived.Test.YtkmlnccdldmmpaaDoorG14

/-
  light of the law: are items few, and not too deep.
-/
namespace Go.Proofs.YtkmlnccdldmmpaaDoor
open Go.RowKit

def lightI (G : List Itm → Nat → Bool) (dp : Nat) (it : Itm) : Bool := decide (it.arms.length ≤ 5) && it.arms.all fun a => G a.2 (dp + 1)
def lightL (G : List Itm → Nat → Bool) (l : List Itm) (dp : Nat) : Bool := decide (l.length ≤ 10) && decide (dp ≤ 6) && l.all (lightI G dp)
def lightF : Nat → List Itm → Nat → Bool
  | 0 => lightL fun _ _ => true
  | d + 1 => lightL (lightF d)

theorem all_not {α : Type} {f : α → Bool} {l : List α} {k : Nat} {a : α} (h : l[k]? = some a) (hf : f a = false) : l.all f = false := by
  rw [Bool.eq_false_iff]
  intro ha
  have := List.all_eq_true.1 ha a (List.mem_of_getElem? h)
  rw [hf] at this
  cases this
theorem all_yes {α : Type} {f : α → Bool} {l : List α} (h : ∀ (k : Nat) (a : α), l[k]? = some a → f a = true) : l.all f = true := by
  rw [List.all_eq_true]
  intro a ha
  obtain ⟨k, hk, rfl⟩ := List.getElem_of_mem ha
  exact h k _ (List.getElem?_eq_getElem hk)

set_option maxRecDepth 100000 in
set_option maxHeartbeats 3200000 in
theorem light_step {R : RelI} {G : List Itm → Nat → Bool} (hF : Formed R) (hR : ∀ l v w dp, R l v w → dp ≤ 7 → Calls Tryd.prog 34 #[v, .int .i64 ((dp : Nat) : Int)] w (BoolPost (G l dp) w)) {l : List Itm} {v : Value} {w : World} {dp : Nat} (h : ItsOf R l v w) (hdp : dp ≤ 7) :
    Calls Tryd.prog 34 #[v, .int .i64 (dp : Int)] w (BoolPost (lightL G l dp) w) := by
  obtain ⟨a, n, cap, rfl, hn, hc1, hc2⟩ := h.form
  have HX := Lib.hid h
  have HN := Lib.hid hn
  have HR := Lib.hid hR
  have HF := Lib.hid hF
  unfold maxLen at hc2
  obtain ⟨Z, hZ⟩ : ∃ Z, lightL G l dp = Z := ⟨_, rfl⟩
  have HZ := Lib.hid hZ
  rw [hZ]
  clear h hn hR hF hZ
  by_cases hl : n ≤ 10
  · by_cases hd : dp ≤ 6
    · have HZ2 : Hid (l.all (lightI G dp) = Z) := Lib.hid (by
        rw [← HZ.out]
        unfold lightL
        have := HN.out
        rw [decide_eq_true (by omega), decide_eq_true hd]
        rfl)
      go_enter Tryd.func34, Tryd.ntmps34
      go_wp2
      go_loop [5] (fun i => ∃ k : Nat, i = .int .i64 (k : Int) ∧ k ≤ n ∧ ∀ j it, j < k → l[j]? = some it → lightI G dp it = true) (fun i => n - (intOf i).toNat)
      case atStart => exact ⟨0, rfl, Nat.zero_le _, fun j it hj => by omega⟩
      case round =>
        obtain ⟨k, rfl, hk, hall⟩ := hrel
        have HALL := Lib.hid hall
        clear hall
        by_cases hlt : k < n
        · obtain ⟨it, hit⟩ : ∃ it, l[k]? = some it := ⟨_, List.getElem?_eq_getElem (by rw [← HN.out]; exact hlt)⟩
          obtain ⟨g, o, aa, an, ac, rfl, hg, han, hac1, hac2, ⟨c0, c1, c2⟩, hr⟩ := HX.out.get hit
          have HIT := Lib.hid hit
          have HAN := Lib.hid han
          have HAR := Lib.hid hr
          unfold maxLen at hac2
          clear hit han hr c0 c1
          by_cases h5 : an ≤ 5
          · go_wp2
            go_loop [6] (fun i => ∃ j : Nat, i = .int .i64 (j : Int) ∧ j ≤ an ∧ ∀ q x, q < j → it.arms[q]? = some x → G x.2 (dp + 1) = true) (fun i => an - (intOf i).toNat)
            case atStart => exact ⟨0, rfl, Nat.zero_le _, fun q x hq => by omega⟩
            case round =>
              obtain ⟨j, rfl, hj, hin⟩ := hrel
              have HIN := Lib.hid hin
              clear hin
              by_cases hltj : j < an
              · obtain ⟨x, hx⟩ : ∃ x, it.arms[j]? = some x := ⟨_, List.getElem?_eq_getElem (by rw [← HAN.out]; exact hltj)⟩
                obtain ⟨p, q, ia, im, ic, rfl, hp, ⟨d0, d1⟩, hr2⟩ := HAR.out.get HF.out hx
                have HCL : Hid (Calls Tryd.prog 34 #[.slice ia im ic, .int .i64 ((dp : Int) + 1)] w (BoolPost (G x.2 (dp + 1)) w)) := Lib.hid (HR.out _ _ _ (dp + 1) hr2 (by omega))
                have HXT := Lib.hid hx
                clear hx hr2 d0
                by_cases hg1 : G x.2 (dp + 1) = true
                · rw [hg1] at HCL
                  have HG1 := Lib.hid hg1
                  clear hg1
                  go_wp2_with (go_at_call 34; (with_reducible refine HCL.out.mono ?_); rintro e w' ⟨rfl, rfl⟩)
                  go_round
                  case rel => exact ⟨j + 1, by go_num, hltj, fun r y hr hy => by
                    rcases Nat.lt_or_ge r j with h | h
                    · exact HIN.out r y h hy
                    · obtain rfl : r = j := by omega
                      rw [HXT.out] at hy
                      cases hy
                      exact HG1.out⟩
                  case measure => simp [intOf]; omega
                · have hg0 : G x.2 (dp + 1) = false := by simpa using hg1
                  rw [hg0] at HCL
                  have HZF : Hid (false = Z) := Lib.hid (by
                    rw [← HZ2.out]
                    refine (all_not HIT.out ?_).symm
                    unfold lightI
                    rw [all_not (f := fun a : Int × List Itm => G a.2 (dp + 1)) HXT.out hg0, Bool.and_false])
                  clear hg1 hg0
                  go_wp2_with (go_at_call 34; (with_reducible refine HCL.out.mono ?_); rintro e w' ⟨rfl, rfl⟩)
                  go_ret
                  exact ⟨ret_bool HZF.out, rfl⟩
              · have HYI : Hid (lightI G dp it = true) := Lib.hid (by
                  unfold lightI
                  rw [decide_eq_true (by have := HAN.out; omega), Bool.true_and]
                  exact all_yes fun q x hx => HIN.out q x (by have := (List.getElem?_eq_some_iff.1 hx).1; have := HAN.out; omega) hx)
                go_wp2
                go_round
                case rel => exact ⟨k + 1, by go_num, hlt, fun r y hr hy => by
                  rcases Nat.lt_or_ge r k with h | h
                  · exact HALL.out r y h hy
                  · obtain rfl : r = k := by omega
                    rw [HIT.out] at hy
                    cases hy
                    exact HYI.out⟩
                case measure => simp [intOf]; omega
          · have HZF : Hid (false = Z) := Lib.hid (by
              rw [← HZ2.out]
              refine (all_not HIT.out ?_).symm
              unfold lightI
              rw [decide_eq_false (by have := HAN.out; omega), Bool.false_and])
            go_wp2
            go_ret
            exact ⟨ret_bool HZF.out, rfl⟩
        · have HZT : Hid (true = Z) := Lib.hid (by
            rw [← HZ2.out]
            exact (all_yes fun q x hx => HALL.out q x (by have := (List.getElem?_eq_some_iff.1 hx).1; have := HN.out; omega) hx).symm)
          go_wp2
          go_ret
          exact ⟨ret_bool HZT.out, rfl⟩
    · have HZF : Hid (false = Z) := Lib.hid (by
        rw [← HZ.out]
        unfold lightL
        rw [decide_eq_false hd]
        simp)
      go_enter Tryd.func34, Tryd.ntmps34
      go_wp2
      go_ret
      exact ⟨ret_bool HZF.out, rfl⟩
  · have HZF : Hid (false = Z) := Lib.hid (by
      rw [← HZ.out]
      unfold lightL
      rw [decide_eq_false (by have := HN.out; omega)]
      rfl)
    go_enter Tryd.func34, Tryd.ntmps34
    go_wp2
    go_ret
    exact ⟨ret_bool HZF.out, rfl⟩

theorem light_any : ∀ (d : Nat) (l : List Itm) (v : Value) (w : World) (dp : Nat), ItsAt d l v w → dp ≤ 7 → Calls Tryd.prog 34 #[v, .int .i64 (dp : Int)] w (BoolPost (lightF d l dp) w)
  | 0, _, _, _, _, h, hd => light_step (fun _ _ _ h => h.elim) (fun _ _ _ _ h _ => h.elim) h hd
  | d + 1, _, _, _, _, h, hd => light_step (itsAt_form d) (fun l v w dp h hd => light_any d l v w dp h hd) h hd

end Go.Proofs.YtkmlnccdldmmpaaDoor

/-
  How many lines light items have.
-/
namespace Go.Proofs.YtkmlnccdldmmpaaDoor
open Go.RowKit

def lightN : Nat → Nat
  | 0 => 0
  | m + 1 => 50 * (1 + lightN m)
theorem len_flat {α β : Type} {f : α → List β} {m : Nat} : ∀ {l : List α}, (∀ a ∈ l, (f a).length ≤ m) → (l.flatMap f).length ≤ l.length * m
  | [], _ => by simp
  | a :: r, h => by
    rw [List.flatMap_cons, List.length_append, List.length_cons, Nat.add_mul, Nat.one_mul]
    have h1 := h a List.mem_cons_self
    have h2 := len_flat (l := r) fun b hb => h b (List.mem_cons_of_mem _ hb)
    omega
theorem lightL_is {G : List Itm → Nat → Bool} {l : List Itm} {dp : Nat} (h : lightL G l dp = true) : l.length ≤ 10 ∧ dp ≤ 6 ∧ ∀ it ∈ l, it.arms.length ≤ 5 ∧ ∀ x ∈ it.arms, G x.2 (dp + 1) = true := by
  unfold lightL at h
  simp only [Bool.and_eq_true, decide_eq_true_eq, List.all_eq_true] at h
  refine ⟨h.1.1, h.1.2, fun it hit => ?_⟩
  have := h.2 it hit
  unfold lightI at this
  simpa only [Bool.and_eq_true, decide_eq_true_eq, List.all_eq_true] using this

theorem light_len : ∀ (d m : Nat) (l : List Itm) (dp : Nat), dp + m = 7 → lightF d l dp = true → (flatF d l).length ≤ lightN m
  | 0, m, l, dp, hm, h => by
    obtain ⟨h1, h2, -⟩ := lightL_is (G := fun _ _ => true) h
    obtain ⟨m, rfl⟩ : ∃ m', m = m' + 1 := ⟨m - 1, by omega⟩
    show (l.map Itm.line).length ≤ 50 * (1 + lightN m)
    rw [List.length_map]
    omega
  | d + 1, m, l, dp, hm, h => by
    obtain ⟨h1, h2, h3⟩ := lightL_is (G := lightF d) h
    obtain ⟨m, rfl⟩ : ∃ m', m = m' + 1 := ⟨m - 1, by omega⟩
    show (l.flatMap (flatI (flatF d))).length ≤ 50 * (1 + lightN m)
    have hit : ∀ it ∈ l, (flatI (flatF d) it).length ≤ 5 * (1 + lightN m) := fun it hit => by
      obtain ⟨h4, h5⟩ := h3 it hit
      unfold flatI
      split
      · simp
        omega
      · refine Nat.le_trans (len_flat (m := 1 + lightN m) fun x hx => ?_) (Nat.mul_le_mul_right _ h4)
        rw [List.length_cons]
        have := light_len d m x.2 (dp + 1) (by omega) (h5 x hx)
        omega
    refine Nat.le_trans (len_flat hit) ?_
    have := Nat.mul_le_mul_right (5 * (1 + lightN m)) h1
    omega
theorem light_big {d : Nat} {l : List Itm} (h : lightF d l 0 = true) : (flatF d l).length ≤ 17592186044416 := by
  refine Nat.le_trans (light_len d 7 l 0 rfl h) ?_
  decide
theorem light_small : ∀ (d : Nat) (l : List Itm) (dp : Nat), lightF d l dp = true → SmallF d l
  | 0, l, dp, h => by
    have := (lightL_is (G := fun _ _ => true) h).1
    show l.length ≤ 500000
    omega
  | d + 1, l, dp, h => by
    obtain ⟨h1, -, h3⟩ := lightL_is (G := lightF d) h
    refine ⟨by omega, fun it hit => ⟨by have := (h3 it hit).1; omega, fun x hx => light_small d x.2 (dp + 1) ((h3 it hit).2 x hx)⟩⟩

end Go.Proofs.YtkmlnccdldmmpaaDoor
