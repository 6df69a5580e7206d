/-
  Texts of the proof, put together: AgUnM, OwnApp.
-/
import Derived.Test.YtipipookgcdfbaaG28
import Derived.Test.YtipipookgcdfbaaG17

/-
  A string is one token, and what the document asks of it: the same, over lists.
-/
namespace Go.Proofs.Ytipipookgcdfbaa
open Go.RowKit

def isPre (p : List UInt8) : Prop := p = [] ∨ p = [76] ∨ p = [117] ∨ p = [85] ∨ p = [117, 56]
/-- A constant as a whole: letters, a quote, what is between, a quote. -/
def conS (q : UInt8) (p i : List UInt8) : List UInt8 := p ++ q :: (i ++ [q])
/-- How many letters a constant has ahead of its quote. -/
def aheadQ (q : UInt8) (l : List UInt8) : Option Nat :=
  if 2 ≤ l.length ∧ l.getD 0 0 = q ∧ l.getD (l.length - 1) 0 = q then some 0
  else if 3 ≤ l.length ∧ (l.getD 0 0 = 76 ∨ l.getD 0 0 = 117 ∨ l.getD 0 0 = 85) ∧ l.getD 1 0 = q ∧ l.getD (l.length - 1) 0 = q then some 1
  else if 4 ≤ l.length ∧ l.getD 0 0 = 117 ∧ l.getD 1 0 = 56 ∧ l.getD 2 0 = q ∧ l.getD (l.length - 1) 0 = q then some 2 else none

theorem last_q {r : List UInt8} {q : UInt8} (h1 : 1 ≤ r.length) (h : r.getD (r.length - 1) 0 = q) : ∃ i, r = i ++ [q] := by
  refine ⟨r.dropLast, ?_⟩
  have hne : r ≠ [] := by intro e; rw [e] at h1; simp at h1
  have hl := List.dropLast_concat_getLast hne
  have : r.getLast hne = q := by
    rw [List.getLast_eq_getElem, ← h]
    simp [List.getD, List.getElem?_eq_getElem (show r.length - 1 < r.length by omega)]
  rw [this] at hl
  exact hl.symm
theorem ahead_some {q : UInt8} {l : List UInt8} {n : Nat} (h : aheadQ q l = some n) : ∃ p i, isPre p ∧ p.length = n ∧ l = conS q p i := by
  unfold aheadQ at h
  split at h
  · rename_i c
    obtain ⟨h1, h2, h3⟩ := c
    simp only [Option.some.injEq] at h
    subst h
    match l, h1, h2, h3 with
    | a :: r, h1, h2, h3 =>
      have ha : a = q := h2
      subst ha
      simp only [List.length_cons] at h1
      obtain ⟨i, rfl⟩ := last_q (r := r) (q := a) (by omega) (by
        rw [List.length_cons, Nat.add_sub_cancel] at h3
        rw [← h3]
        have : r.length = (r.length - 1) + 1 := by omega
        rw [this, List.getD_cons_succ]
        simp)
      exact ⟨[], i, .inl rfl, rfl, rfl⟩
  · split at h
    · rename_i c
      obtain ⟨h1, h0, h2, h3⟩ := c
      simp only [Option.some.injEq] at h
      subst h
      match l, h1, h0, h2, h3 with
      | b :: a :: r, h1, h0, h2, h3 =>
        have ha : a = q := h2
        have h0 : b = 76 ∨ b = 117 ∨ b = 85 := h0
        subst ha
        simp only [List.length_cons] at h1
        obtain ⟨i, rfl⟩ := last_q (r := r) (q := a) (by omega) (by
          have e : (b :: a :: r).length - 1 = (r.length - 1) + 1 + 1 := by simp only [List.length_cons]; omega
          rw [e, List.getD_cons_succ, List.getD_cons_succ] at h3
          exact h3)
        refine ⟨[b], i, ?_, rfl, rfl⟩
        rcases h0 with rfl | rfl | rfl
        · exact .inr (.inl rfl)
        · exact .inr (.inr (.inl rfl))
        · exact .inr (.inr (.inr (.inl rfl)))
    · split at h
      · rename_i c
        obtain ⟨h1, h0, h00, h2, h3⟩ := c
        simp only [Option.some.injEq] at h
        subst h
        match l, h1, h0, h00, h2, h3 with
        | d :: b :: a :: r, h1, h0, h00, h2, h3 =>
          have ha : a = q := h2
          have h0 : d = 117 := h0
          have h00 : b = 56 := h00
          subst ha h0 h00
          simp only [List.length_cons] at h1
          obtain ⟨i, rfl⟩ := last_q (r := r) (q := a) (by omega) (by
            have e : ((117 : UInt8) :: 56 :: a :: r).length - 1 = (r.length - 1) + 1 + 1 + 1 := by simp only [List.length_cons]; omega
            rw [e, List.getD_cons_succ, List.getD_cons_succ, List.getD_cons_succ] at h3
            exact h3)
          exact ⟨[117, 56], i, .inr (.inr (.inr (.inr rfl))), rfl, rfl⟩
      · cases h
theorem con_len (q : UInt8) (p i : List UInt8) : (conS q p i).length = p.length + i.length + 2 := by
  unfold conS
  simp only [List.length_append, List.length_cons, List.length_nil]
  omega
theorem con_last (q : UInt8) (p i : List UInt8) : (conS q p i).getD ((conS q p i).length - 1) 0 = q := by
  rw [con_len]
  have e : conS q p i = (p ++ q :: i) ++ [q] := by simp [conS]
  rw [e]
  have h : p.length + i.length + 2 - 1 = (p ++ q :: i).length := by
    simp only [List.length_append, List.length_cons]
    omega
  rw [h]
  simp [List.getD]
theorem ahead_con {q : UInt8} {p : List UInt8} (hp : isPre p) (i : List UInt8) (hq : q = 34 ∨ q = 39) : aheadQ q (conS q p i) = some p.length := by
  have hl := con_len q p i
  have hz := con_last q p i
  unfold aheadQ
  rw [hz, hl]
  rcases hp with rfl | rfl | rfl | rfl | rfl
  · rw [if_pos ⟨by simp, rfl, rfl⟩]; rfl
  · rw [if_neg (by intro c; have := c.2.1; revert this; show ¬ ((76 : UInt8) = q); rcases hq with rfl | rfl <;> decide), if_pos ⟨by simp, .inl rfl, rfl, rfl⟩]; rfl
  · rw [if_neg (by intro c; have := c.2.1; revert this; show ¬ ((117 : UInt8) = q); rcases hq with rfl | rfl <;> decide), if_pos ⟨by simp, .inr (.inl rfl), rfl, rfl⟩]; rfl
  · rw [if_neg (by intro c; have := c.2.1; revert this; show ¬ ((85 : UInt8) = q); rcases hq with rfl | rfl <;> decide), if_pos ⟨by simp, .inr (.inr rfl), rfl, rfl⟩]; rfl
  · rw [if_neg (by intro c; have := c.2.1; revert this; show ¬ ((117 : UInt8) = q); rcases hq with rfl | rfl <;> decide), if_neg (by intro c; have := c.2.2.1; revert this; show ¬ ((56 : UInt8) = q); rcases hq with rfl | rfl <;> decide), if_pos ⟨by simp, rfl, rfl, rfl, rfl⟩]; rfl

/-- The document's way. -/
def dquL (l : List UInt8) : Option (List UInt8) := match aheadQ 34 l with
  | none => none
  | some n => unqL ((l.drop (n + 1)).take (l.length - 1 - (n + 1)))
theorem con_mid (q : UInt8) (p i : List UInt8) : ((conS q p i).drop (p.length + 1)).take ((conS q p i).length - 1 - (p.length + 1)) = i := by
  rw [con_len]
  have e : (conS q p i).drop (p.length + 1) = i ++ [q] := by
    unfold conS
    rw [← List.drop_drop, List.drop_left]
    rfl
  rw [e, show p.length + i.length + 2 - 1 - (p.length + 1) = i.length from by omega, List.take_left]

/-- One token that is a string is letters, a quote, and what is between. -/
theorem one_con {l : List UInt8} (h : oneL l = some 4) : ∃ p i, isPre p ∧ l = conS 34 p i ∧ (unqL i).isSome = true := by
  unfold oneL at h
  split at h
  · split at h
    · rename_i hb hn
      split at h
      · cases h
      · have hk : (tok (l ++ [10])).1 = 4 := by simpa using h
        obtain ⟨L, hL⟩ : ∃ L, l ++ [10] = L := ⟨_, rfl⟩
        rw [hL] at hk hn
        unfold tok at hk hn
        cases hc : conN L with
        | none =>
          rw [hc] at hk
          simp only at hk
          split at hk
          · cases hk
          · split at hk
            · cases hk
            · split at hk <;> cases hk
        | some x =>
          rw [hc] at hk hn
          simp only at hk hn
          unfold conN at hc
          split at hc
          · rename_i hq
            obtain ⟨k, hkk⟩ : ∃ k, lettN L = k := ⟨_, rfl⟩
            rw [hkk] at hc hq
            cases hqn : qN 34 false (L.drop (k + 1)) with
            | none => rw [hqn] at hc; cases hc
            | some m =>
              rw [hqn] at hc
              simp only [Option.map_some, Option.some.injEq] at hc
              subst hc
              simp only at hn
              have hll : k + 1 ≤ l.length := by omega
              have hdr : L.drop (k + 1) = l.drop (k + 1) ++ [10] := by rw [← hL, List.drop_append_of_le_length hll]
              rw [hdr] at hqn
              have hm : m = (l.drop (k + 1)).length := by rw [List.length_drop]; omega
              rw [hm] at hqn
              obtain ⟨i, hi, hu⟩ := unq_of _ hqn
              have hget : ∀ j, j < l.length → L.getD j 0 = l.getD j 0 := fun j hj => by
                rw [← hL]
                simp [List.getD, List.getElem?_append_left hj]
              rw [hget k (by omega)] at hq
              have hlk : l = l.take k ++ 34 :: (i ++ [34]) := by
                rw [← hi]
                have h1 : l[k]? = some 34 := by
                  rw [List.getElem?_eq_getElem (by omega)]
                  rw [← hq]
                  simp [List.getD, List.getElem?_eq_getElem (show k < l.length by omega)]
                have h2 : l.drop k = 34 :: l.drop (k + 1) := by
                  rw [List.drop_eq_getElem_cons (by omega)]
                  rw [List.getElem?_eq_getElem (by omega)] at h1
                  rw [Option.some.inj h1]
                rw [← h2, List.take_append_drop]
              refine ⟨l.take k, i, ?_, hlk, hu⟩
              unfold lettN at hkk
              split at hkk
              · rename_i hh
                subst hkk
                rw [hget 0 (by omega), hget 1 (by omega)] at hh
                match l, hll, hh with
                | a :: b :: c :: r, _, hh =>
                  have h1 : a = 117 := hh.1
                  have h2 : b = 56 := hh.2.1
                  subst h1 h2
                  exact .inr (.inr (.inr (.inr rfl)))
              · split at hkk
                · rename_i hh
                  subst hkk
                  rw [hget 0 (by omega)] at hh
                  match l, hll, hh with
                  | a :: b :: r, _, hh =>
                    have h1 : a = 76 ∨ a = 117 ∨ a = 85 := hh.1
                    rcases h1 with rfl | rfl | rfl
                    · exact .inr (.inl rfl)
                    · exact .inr (.inr (.inl rfl))
                    · exact .inr (.inr (.inr (.inl rfl)))
                · subst hkk
                  exact .inl rfl
          · split at hc
            · cases hqn : qN 39 false (L.drop (lettN L + 1)) with
              | none => rw [hqn] at hc; cases hc
              | some m =>
                rw [hqn] at hc
                simp only [Option.map_some, Option.some.injEq] at hc
                subst hc
                cases hk
            · cases hc
    · cases h
  · cases h
theorem con_one {p i : List UInt8} (hp : isPre p) (hu : (unqL i).isSome = true) : oneL (conS 34 p i) = some 4 := by
  have hq := (unq_some i hu).2
  have hlen := con_len 34 p i
  have hL : conS 34 p i ++ [10] = p ++ 34 :: (i ++ 34 :: [10]) := by simp [conS]
  have hlet : lettN (p ++ 34 :: (i ++ 34 :: [10])) = p.length := by
    unfold lettN
    rcases hp with rfl | rfl | rfl | rfl | rfl
    · rw [if_neg (by intro c; have := c.1; revert this; show ¬ ((34 : UInt8) = 117); decide), if_neg (by intro c; have := c.1; revert this; show ¬ ((34 : UInt8) = 76 ∨ (34 : UInt8) = 117 ∨ (34 : UInt8) = 85); decide)]; rfl
    · rw [if_neg (by intro c; have := c.1; revert this; show ¬ ((76 : UInt8) = 117); decide), if_pos ⟨.inl rfl, .inl rfl⟩]; rfl
    · rw [if_neg (by intro c; have := c.2.1; revert this; show ¬ ((34 : UInt8) = 56); decide), if_pos ⟨.inr (.inl rfl), .inl rfl⟩]; rfl
    · rw [if_neg (by intro c; have := c.1; revert this; show ¬ ((85 : UInt8) = 117); decide), if_pos ⟨.inr (.inr rfl), .inl rfl⟩]; rfl
    · rw [if_pos ⟨rfl, rfl, rfl⟩]; rfl
  have hcon : conN (p ++ 34 :: (i ++ 34 :: [10])) = some (4, p.length + 1 + (i.length + 1)) := by
    unfold conN
    rw [hlet]
    have hg : (p ++ 34 :: (i ++ 34 :: [10])).getD p.length 0 = 34 := by simp [List.getD]
    have hd : (p ++ 34 :: (i ++ 34 :: [10])).drop (p.length + 1) = i ++ 34 :: [10] := by
      rw [← List.drop_drop, List.drop_left]
      rfl
    rw [if_pos hg, hd, hq]
    rfl
  have htok : tok (p ++ 34 :: (i ++ 34 :: [10])) = (4, p.length + 1 + (i.length + 1)) := by
    unfold tok
    rw [hcon]
  have hbeg : begN (p ++ 34 :: (i ++ 34 :: [10])) = 1 := by
    rcases hp with rfl | rfl | rfl | rfl | rfl <;> rfl
  unfold oneL
  rw [hL, hbeg, htok, if_pos rfl, if_pos (by rw [hlen]; omega)]
  rfl

theorem one_dqu (l : List UInt8) : (oneL l = some 4 ∧ ∃ p i, isPre p ∧ l = conS 34 p i ∧ dquL l = some (plnL i) ∧ aheadQ 34 l = some p.length) ∨ (oneL l ≠ some 4 ∧ dquL l = none) := by
  by_cases h : oneL l = some 4
  · obtain ⟨p, i, hp, rfl, hu⟩ := one_con h
    refine .inl ⟨h, p, i, hp, rfl, ?_, ahead_con hp i (.inl rfl)⟩
    unfold dquL
    rw [ahead_con hp i (.inl rfl)]
    simp only
    rw [con_mid, (unq_some i hu).1]
  · refine .inr ⟨h, ?_⟩
    unfold dquL
    cases ha : aheadQ 34 l with
    | none => rfl
    | some n =>
      obtain ⟨p, i, hp, rfl, rfl⟩ := ahead_some ha
      simp only
      rw [con_mid]
      cases hu : unqL i with
      | none => rfl
      | some x => exact absurd (con_one hp (by rw [hu]; rfl)) h
theorem index_con {p : List UInt8} (hp : isPre p) (i : List UInt8) : Lib.indexByte (conS 34 p i) 34 = (p.length : Int) := by
  rcases hp with rfl | rfl | rfl | rfl | rfl <;> rfl

end Go.Proofs.Ytipipookgcdfbaa

/-
  An append to a row of its own, and where the row lies then.
-/
namespace Go.Proofs.Ytipipookgcdfbaa
open Go.RowKit

/-- An append to a row of its own, and where it lies then. -/
theorem own_app {t ty e : TypeId} {i0 : TypeInfo} {z : Value} {size bytes : Nat} {B n m : Nat} {v sv : Value} {xs news : List Value} {w : World}
    (ht : Try.prog.underlying t = some (.slice e)) (hi : Try.prog.info? e = some i0) (hz : i0.zero = some z) (hsz : i0.size = size) (hby : i0.bytes = bytes) (hzs : z.cells.size = size) (hpos : 0 < size) (hbb : bytes ≤ 100)
    (hd : w.ownsRow B e size v n xs) (hs : Src w sv m size news) (h1 : ∀ u ∈ news, u.oneCell' = true) (hm : 0 < n + m) (hn : n + m ≤ 1000000) (hB : B ≤ w.heap.size) :
    ∃ b cap w', (Builtin.append_ #[t, t] ty #[v, sv]).run Try.prog w = .ok (.slice (some ⟨b, 0, none⟩) (n + m) cap) w' ∧ w'.ownsRow B e size (.slice (some ⟨b, 0, none⟩) (n + m) cap) (n + m) (xs ++ news) ∧ w.grownBy w' v.ownBlock ∧ (v.ownBlock = some b ∨ w.heap.size ≤ b) := by
  obtain ⟨v', w', hr, h2, h3⟩ := run_app (ty := ty) ht hi hz hsz hby hzs hpos hbb hd hs h1 hn hB
  obtain ⟨b, cap, rfl⟩ := append_form h2 hm
  refine ⟨b, cap, w', hr, h2, h3, ?_⟩
  have hd0 := hd
  obtain ⟨hl, ⟨rfl, rfl⟩ | ⟨g, c, cur, rfl, hg, hh, hc, hmx, hcs, htk⟩⟩ := hd
  · right
    have hx : xs = [] := List.eq_nil_of_length_eq_zero (by simpa using hl)
    subst hx
    obtain ⟨v2, w2, hr2, h4, -⟩ := run_app (ty := ty) (B := w.heap.size) ht hi hz hsz hby hzs hpos hbb ⟨hl, .inl ⟨rfl, rfl⟩⟩ hs h1 hn (Nat.le_refl _)
    rw [hr] at hr2
    cases hr2
    exact (World.ownsRow.lt h4 b rfl).1
  · rcases hs with ⟨rfl, rfl, rfl⟩ | ⟨ad, c2, rfl, hnl, hnc⟩
    · have hr2 := run_append_owned_none (P := Try.prog) (w := w) B t ty e i0 size ht hi (.slice (some ⟨g, 0, none⟩) n c) n xs hd0
      rw [hr] at hr2
      simp only [Result.ok.injEq, Value.slice.injEq, Option.some.injEq, Addr.mk.injEq, and_true] at hr2
      left
      rw [← hr2.1.1]
      rfl
    · by_cases hroom : n + m ≤ c
      · have hfit : n * i0.size + news.length ≤ cur.size := by
          rw [hnl, hcs, hsz, ← Nat.add_mul]
          exact Nat.mul_le_mul_right _ hroom
        have hr2 := run_append_room (P := Try.prog) w t ty e i0 ht hi g n c cur hh ad m c2 news (by rw [hsz]; exact hnl) hnc h1 hroom hfit
        rw [hr] at hr2
        simp only [Result.ok.injEq, Value.slice.injEq, Option.some.injEq, Addr.mk.injEq, and_true] at hr2
        left
        rw [← hr2.1.1]
        rfl
      · have hold := hd0.cells (g := g) rfl
        have hr2 := run_append_grow (P := Try.prog) w t ty e i0 z ht hi hz ⟨g, 0, none⟩ n c xs (by rw [hsz]; exact hl) hold ad m c2 news (by rw [hsz]; exact hnl) hnc (by omega) (by omega) (growslice_fits (by omega) (by
          rw [hby]
          have := Nat.mul_le_mul hn hbb
          omega))
        rw [hr] at hr2
        simp only [Result.ok.injEq, Value.slice.injEq, Option.some.injEq, Addr.mk.injEq, and_true] at hr2
        right
        rw [hr2.1.1]
        exact Nat.le_refl _

end Go.Proofs.Ytipipookgcdfbaa
