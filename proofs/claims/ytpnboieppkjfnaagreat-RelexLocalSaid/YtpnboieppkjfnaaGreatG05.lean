/-
  Texts of the proof, put together: EdD.
-/
import Derived.Test.YtpnboieppkjfnaaGreatG04

/-
  Pieces of a text, each of one line: their lines; pieces put in the place of others.
-/
namespace Go.Proofs.YtpnboieppkjfnaaGreat

def OneL (T : List UInt8) : Prop := (FL T).lines.length = 1
/-- Pieces that are lines: all but the last are shut, and none of more than one is of splices alone. -/
def Pcs : List (List UInt8) → Prop
  | [] => True
  | [T] => OneL T
  | T :: U :: r => OneL T ∧ Shut T ∧ chs U 0 ≠ [] ∧ Pcs (U :: r)

theorem FL_nil : FL [] = acc0 := rfl
theorem OneL.ne {T : List UInt8} (h : OneL T) : T ≠ [] := by
  rintro rfl
  unfold OneL at h
  rw [FL_nil] at h
  cases h

theorem Pcs.tail {T : List UInt8} {r : List (List UInt8)} (h : Pcs (T :: r)) : Pcs r := by
  cases r with
  | nil => trivial
  | cons U q => exact h.2.2.2
theorem Pcs.head {T : List UInt8} {r : List (List UInt8)} (h : Pcs (T :: r)) : OneL T := by
  cases r with
  | nil => exact h
  | cons U q => exact h.1
theorem Pcs.one : ∀ {Ts : List (List UInt8)}, Pcs Ts → ∀ T ∈ Ts, OneL T
  | [], _, _, h => by cases h
  | T :: r, h, U, hU => by
    rcases List.mem_cons.1 hU with rfl | hU
    · exact h.head
    · exact Pcs.one h.tail U hU
theorem Shut.some {T : List UInt8} (h : Shut T) : chs T 0 ≠ [] := by
  have := chs_some h.e h.s (b := [])
  rwa [List.append_nil] at this
theorem Pcs.flat_some {U : List UInt8} {r : List (List UInt8)} (h : Pcs (U :: r)) (hU : chs U 0 ≠ []) : chs (U :: r).flatten 0 ≠ [] := by
  cases r with
  | nil => simpa using hU
  | cons V q => exact chs_some h.2.1.e h.2.1.s
theorem Pcs.head_some {U : List UInt8} {r : List (List UInt8)} (h : Pcs (U :: r)) (hU : chs (U :: r).flatten 0 ≠ []) : chs U 0 ≠ [] := by
  cases r with
  | nil => simpa using hU
  | cons V q => exact h.2.1.some

theorem Pcs.app : ∀ {X Y : List (List UInt8)}, Pcs X → (Y ≠ [] → ∀ T ∈ X, Shut T) → Pcs Y → (X ≠ [] → ∀ U r, Y = U :: r → chs U 0 ≠ []) → Pcs (X ++ Y)
  | [], _, _, _, hY, _ => hY
  | [T], [], hX, _, _, _ => hX
  | [T], U :: r, hX, hS, hY, hB => ⟨hX, hS (by simp) T (List.mem_cons_self), hB (by simp) U r rfl, hY⟩
  | T :: V :: q, Y, hX, hS, hY, hB => ⟨hX.1, hX.2.1, hX.2.2.1, Pcs.app (X := V :: q) hX.2.2.2 (fun h U hU => hS h U (List.mem_cons_of_mem _ hU)) hY (fun _ => hB (by simp))⟩

theorem Pcs.parts : ∀ {X Y : List (List UInt8)}, Pcs (X ++ Y) → Pcs X ∧ Pcs Y ∧ (Y ≠ [] → ∀ T ∈ X, Shut T) ∧ (X ≠ [] → ∀ U r, Y = U :: r → chs U 0 ≠ [])
  | [], _, h => ⟨trivial, h, fun _ T hT => (by cases hT), fun h => absurd rfl h⟩
  | [T], [], h => ⟨h, trivial, fun h => absurd rfl h, fun _ _ _ e => (by cases e)⟩
  | [T], U :: r, h => ⟨h.1, h.2.2.2, fun _ V hV => (by simp at hV; rw [hV]; exact h.2.1), fun _ V q e => (by cases e; exact h.2.2.1)⟩
  | T :: V :: q, Y, h => by
    obtain ⟨h1, h2, h3, h4⟩ := Pcs.parts (X := V :: q) (Y := Y) h.2.2.2
    refine ⟨⟨h.1, h.2.1, h.2.2.1, h1⟩, h2, fun hY U hU => ?_, fun _ => h4 (by simp)⟩
    rcases List.mem_cons.1 hU with rfl | hU
    · exact h.2.1
    · exact h3 hY U hU

theorem last_shut : ∀ {Ts : List (List UInt8)}, Pcs Ts → Shut Ts.flatten → ∀ T ∈ Ts, Shut T
  | [], _, _, _, h => by cases h
  | [T], _, hs, U, hU => by
    simp only [List.mem_cons, List.not_mem_nil, or_false] at hU
    rw [hU]
    simpa using hs
  | T :: V :: q, h, hs, U, hU => by
    rcases List.mem_cons.1 hU with rfl | hU
    · exact h.2.1
    · refine last_shut (Ts := V :: q) h.2.2.2 ?_ U hU
      have hne : (V :: q).flatten ≠ [] := by
        have := (Pcs.head h.2.2.2).ne
        simp only [List.flatten_cons]
        simp [this]
      have hb := Pcs.flat_some h.2.2.2 h.2.2.1
      have e : (T :: V :: q).flatten = T ++ (V :: q).flatten := rfl
      rw [e] at hs
      have hl : 0 < (V :: q).flatten.length := List.length_pos_iff.2 hne
      refine ⟨?_, ?_, ?_⟩
      · refine ⟨hl, ?_⟩
        have := hs.e.2
        rw [List.length_append, show T.length + (V :: q).flatten.length - 1 = T.length + ((V :: q).flatten.length - 1) from by omega, get_right] at this
        exact this
      · cases hq : spB (V :: q).flatten with
        | false => rfl
        | true =>
          have := hs.s
          rw [spB_app hq] at this
          cases this
      · have := hs.o
        rw [FL_app h.2.1 hb] at this
        exact opnA_join this

theorem FL_some (l : List UInt8) (h : l ≠ []) (hN : E10 (bytesOf (charsL l))) : (FL l).lines ≠ [] := by
  have key : ∀ (m i : Nat) (a : Acc), (charsL l).length - i ≤ m → i < (charsL l).length → (fromA (charsL l) l.length i a).lines ≠ [] := by
    intro m
    induction m with
    | zero => intro i a h hi; omega
    | succ m ih =>
      intro i a hm hi
      have hin := lenA_in (L := charsL l) hi
      rw [fromA_step hi]
      by_cases ho : item ((bytesOf (charsL l)).drop i) = .opn
      · rw [ho]
        simp only [lenA]
        rw [fromA_end (by omega)]
        simp [stepA, endA]
      · by_cases hend : i + lenA (charsL l) i (item ((bytesOf (charsL l)).drop i)) = (charsL l).length
        · have hnl := item_last hN hi ho hend
          rw [hend, fromA_end (Nat.le_refl _), hnl]
          simp [stepA, endA]
        · exact ih _ _ (by omega) (by omega)
  exact key _ 0 acc0 (Nat.le_refl _) ((charsL_count l).2 h)

theorem charsL_e10 {l : List UInt8} (h : l ≠ []) : E10 (bytesOf (charsL l)) := by
  have h1 := (charsL_count l).2 h
  obtain ⟨m, hm⟩ : ∃ m, (charsL l).length = m + 1 := ⟨(charsL l).length - 1, by omega⟩
  obtain ⟨r, hr⟩ : ∃ r, (charsL l)[m]? = some r := ⟨_, List.getElem?_eq_getElem (by omega)⟩
  refine ⟨by rw [bytesOf_len]; omega, ?_⟩
  rw [bytesOf_len, hm, Nat.add_sub_cancel]
  have := charsL_last hm hr
  simp [bytesOf, List.getD, hr, this]

/-- Each text is such pieces. -/
theorem pieces_of : ∀ (n : Nat) (l : List UInt8), l.length ≤ n → ∃ Ts, Pcs Ts ∧ Ts.flatten = l
  | 0, l, h => ⟨[], trivial, by rw [List.eq_nil_of_length_eq_zero (show l.length = 0 by omega)]; rfl⟩
  | n + 1, l, h => by
    by_cases h2 : 2 ≤ (FL l).lines.length
    · obtain ⟨A, B, rfl, hA, hB⟩ := two_pieces h2
      have hA0 := hA.e.1
      have hB0 : 0 < B.length := by
        rcases Nat.eq_zero_or_pos B.length with h3 | h3
        · rw [List.eq_nil_of_length_eq_zero h3] at hB
          exact absurd (chs_end (Nat.le_refl _)) hB
        · exact h3
      rw [List.length_append] at h
      obtain ⟨X, hX, rfl⟩ := pieces_of n A (by omega)
      obtain ⟨Y, hY, rfl⟩ := pieces_of n B (by omega)
      refine ⟨X ++ Y, hX.app (fun _ => last_shut hX hA) hY fun _ U r e => ?_, by rw [List.flatten_append]⟩
      subst e
      exact hY.head_some hB
    · by_cases hl : l = []
      · exact ⟨[], trivial, hl.symm⟩
      · have h0 := FL_some l hl (charsL_e10 hl)
        have : (FL l).lines.length ≠ 0 := fun e => h0 (List.eq_nil_of_length_eq_zero e)
        exact ⟨[l], show OneL l from by unfold OneL; omega, by simp⟩

def lnOf (T : List UInt8) : Ln := (FL T).lines.headD ⟨[], 0, 0, false⟩
/-- Lines of pieces that begin at a place, each with its diagnostics. -/
def rows : Nat → List (List UInt8) → List (Ln × List Dg)
  | _, [] => []
  | p, T :: r => (shLn p (lnOf T), (FL T).diags.map (shDg p)) :: rows (p + T.length) r

theorem OneL.lines {T : List UInt8} (h : OneL T) : (FL T).lines = [lnOf T] := by
  unfold OneL at h
  unfold lnOf
  match hl : (FL T).lines, h with
  | [x], _ => rfl
theorem shTk_zero (t : Tk) : shTk 0 t = t := by unfold shTk; simp
theorem shLn_zero (l : Ln) : shLn 0 l = l := by
  unfold shLn
  rw [show shTk 0 = id from funext shTk_zero]
  simp
theorem shDg_zero (g : Dg) : shDg 0 g = g := by unfold shDg; simp
theorem shLn_add (p q : Nat) (l : Ln) : shLn p (shLn q l) = shLn (p + q) l := by
  unfold shLn
  simp only [List.map_map, Nat.add_assoc]
  congr 1
  apply List.map_congr_left
  intro t _
  simp [shTk, Nat.add_assoc]
theorem shDg_add (p q : Nat) (g : Dg) : shDg p (shDg q g) = shDg (p + q) g := by unfold shDg; simp [Nat.add_assoc]
def shRow (p : Nat) (x : Ln × List Dg) : Ln × List Dg := (shLn p x.1, x.2.map (shDg p))
theorem rows_sh (p : Nat) : ∀ (q : Nat) (Ts : List (List UInt8)), (rows q Ts).map (shRow p) = rows (p + q) Ts
  | _, [] => rfl
  | q, T :: r => by
    rw [rows, rows, List.map_cons, rows_sh p (q + T.length) r, Nat.add_assoc]
    simp only [shRow, shLn_add, List.map_map]
    congr 2
    apply List.map_congr_left
    intro g _
    exact shDg_add p q g
theorem rows_app (p : Nat) : ∀ (X Y : List (List UInt8)), rows p (X ++ Y) = rows p X ++ rows (p + X.flatten.length) Y
  | [], Y => by simp [rows]
  | T :: r, Y => by
    rw [List.cons_append, rows, rows, rows_app (p + T.length) r Y, List.cons_append, List.flatten_cons, List.length_append, Nat.add_assoc]
theorem rows_len : ∀ (p : Nat) (Ts : List (List UInt8)), (rows p Ts).length = Ts.length
  | _, [] => rfl
  | p, T :: r => by rw [rows, List.length_cons, List.length_cons, rows_len]

theorem FL_rows : ∀ {Ts : List (List UInt8)}, Pcs Ts → (FL Ts.flatten).lines = (rows 0 Ts).map Prod.fst ∧ (FL Ts.flatten).diags = (rows 0 Ts).flatMap Prod.snd
  | [], _ => ⟨rfl, rfl⟩
  | [T], h => by
    have h1 := OneL.lines h
    have e : [T].flatten = T := by simp
    rw [e, h1]
    simp [rows, shLn_zero, show shDg 0 = id from funext shDg_zero]
  | T :: U :: r, h => by
    obtain ⟨i1, i2⟩ := FL_rows h.2.2.2
    have hb := Pcs.flat_some h.2.2.2 h.2.2.1
    have e : (T :: U :: r).flatten = T ++ (U :: r).flatten := rfl
    have hr : rows (0 + T.length) (U :: r) = (rows 0 (U :: r)).map (shRow T.length) := by rw [rows_sh, Nat.zero_add, Nat.add_zero]
    rw [e, FL_app h.2.1 hb, rows, hr]
    unfold joinA
    simp only
    rw [i1, i2, h.1.lines]
    refine ⟨?_, ?_⟩
    · simp [shLn_zero, shRow]
    · simp [show shDg 0 = id from funext shDg_zero, shRow, List.map_flatMap, List.flatMap_map]

theorem edit_pieces {X Y Z Ps : List (List UInt8)} (hT : Pcs (X ++ (Y ++ Z))) (hP : Pcs Ps) (hz : Z = [] ∨ Shut Ps.flatten) (hx : X = [] ∨ Ps = [] ∨ chs Ps.flatten 0 ≠ []) (hy : Z ≠ [] → Y ≠ []) (hyz : X = [] ∨ Y ++ Z ≠ []) : Pcs (X ++ (Ps ++ Z)) := by
  obtain ⟨h1, h2, h3, h4⟩ := hT.parts
  obtain ⟨k1, k2, k3, k4⟩ := h2.parts
  have hPZ : Pcs (Ps ++ Z) := by
    rcases hz with rfl | hz
    · rw [List.append_nil]
      exact hP
    · exact hP.app (fun _ => last_shut hP hz) k2 fun _ U r e => k4 (hy (by rw [e]; simp)) U r e
  refine h1.app (fun _ => ?_) hPZ fun hX U r e => ?_
  · rcases hyz with rfl | hyz
    · intro T hT
      cases hT
    · exact h3 hyz
  · rcases hx with hx | hx | hx
    · exact absurd hx hX
    · rw [hx, List.nil_append] at e
      rcases hz with hz | hz
      · rw [hz] at e
        cases e
      · exfalso
        rw [hx] at hz
        exact absurd hz.e.1 (by simp)
    · cases Ps with
      | nil => exact absurd (chs_end (Nat.le_refl _)) hx
      | cons V q =>
        simp only [List.cons_append, List.cons.injEq] at e
        rw [← e.1]
        exact hP.head_some hx

/-- A text of splices alone ends with one. -/
theorem bare_spB {l : List UInt8} : ∀ (n i : Nat), l.length - i ≤ n → i < l.length → chs l i = [] → spB l = true
  | 0, i, h, hi, _ => by omega
  | n + 1, i, h, hi, hc => by
    have ht := tk_t l i
    rw [chs_step hi] at hc
    obtain ⟨h1, h2⟩ := List.append_eq_nil_iff.1 hc
    by_cases hlt : (tk l i).1.t < l.length
    · exact bare_spB n _ (by omega) hlt h2
    · have hte : (tk l i).1.t = l.length := by have := ht.2.2 hi; omega
      cases hsp : spl l (one l i) with
      | false =>
        have hk : tk l i = (one l i, true) := by unfold tk; rw [if_neg (by rw [hsp]; simp)]
        rw [hk] at h1
        cases h1
      | true =>
        have h3 := spl_true hsp
        have hk : tk l i = (⟨(one l i).c, i, (one l i).t + 1⟩, false) := by unfold tk; rw [if_pos hsp]
        rw [hk] at hte
        simp only at hte
        have h10 : l.getD (l.length - 1) 0 = 10 := by rw [show l.length - 1 = (one l i).t from by omega]; exact h3.2.2
        cases htr : triAt l i with
        | some d =>
          have ho : one l i = ⟨d, i, i + 3⟩ := by unfold one; rw [htr]
          have h4 := triAt_some htr
          rw [ho] at h3 hte
          simp only at h3 hte
          rw [h3.1] at h4
          have h5 := tri_92 h4.2.2.2
          exact suf4 (by omega) (by rw [show l.length - 4 = i from by omega]; exact h4.2.1) (by rw [show l.length - 3 = i + 1 from by omega]; exact h4.2.2.1) (by rw [show l.length - 2 = i + 2 from by omega]; exact h5) h10
        | none =>
          have ho : one l i = ⟨l.getD i 0, i, i + 1⟩ := by unfold one; rw [htr]
          rw [ho] at h3 hte
          simp only at h3 hte
          exact suf2 (by omega) (by rw [show l.length - 2 = i from by omega]; exact h3.1) h10

/-- Whether the text ends in a comment hangs on what stands behind the place, but not on what came ahead. -/
theorem open_second {L1 L2 : List Rn} (d sz sz2 : Nat) (hE : E10 (bytesOf L2)) : ∀ (m j : Nat) (a a' : Acc), L2.length - j ≤ m → j < L2.length → opnA (fromA (L1 ++ L2.map (sh d)) sz (L1.length + j) a) = opnA (fromA L2 sz2 j a')
  | 0, j, _, _, h, hj => by omega
  | m + 1, j, a, a', h, hj => by
    have hin := lenA_in (L := L2) hj
    have hlen := bytesOf_len L2
    have hB : bytesOf (L1 ++ L2.map (sh d)) = bytesOf L1 ++ bytesOf L2 := by rw [bytes_app, bytes_sh]
    have e2 : (bytesOf (L1 ++ L2.map (sh d))).drop (L1.length + j) = (bytesOf L2).drop j := by
      rw [hB, ← bytesOf_len L1, List.drop_append]
      simp
    have hll : (L1 ++ L2.map (sh d)).length = L1.length + L2.length := by rw [List.length_append, List.length_map]
    rw [fromA_step hj, fromA_step (L := L1 ++ L2.map (sh d)) (by omega), e2]
    have hl : lenA (L1 ++ L2.map (sh d)) (L1.length + j) (item ((bytesOf L2).drop j)) = lenA L2 j (item ((bytesOf L2).drop j)) := by
      cases hc : item ((bytesOf L2).drop j) with
      | nl => rfl
      | gap n => rfl
      | opn =>
        simp only [lenA]
        omega
      | tk k n => rfl
    rw [hl]
    by_cases hend : j + lenA L2 j (item ((bytesOf L2).drop j)) = L2.length
    · rw [fromA_end (L := L2) (by omega), fromA_end (L := L1 ++ L2.map (sh d)) (by omega)]
      by_cases ho : item ((bytesOf L2).drop j) = .opn
      · rw [ho]
        simp only [stepA, opnA_end]
      · rw [item_last hE hj ho hend]
        simp only [stepA, opnA_end]
    · rw [Nat.add_assoc]
      exact open_second d sz sz2 hE m _ _ _ (by omega) (by omega)

theorem open_first {L1 L2 : List Rn} (sz1 sz : Nat) (hE : E10 (bytesOf L1)) (h2 : L2 ≠ []) : ∀ (m i : Nat) (a b : Acc), L1.length - i ≤ m → i < L1.length → opnA (fromA L1 sz1 i a) = true →
    (comN (bytesOf L2) = none ∧ opnA (fromA (L1 ++ L2) sz i b) = true) ∨ ∃ n c, comN (bytesOf L2) = some n ∧ opnA (fromA (L1 ++ L2) sz i b) = opnA (fromA (L1 ++ L2) sz (L1.length + n) c)
  | 0, i, _, _, h, hi, _ => by omega
  | m + 1, i, a, b, h, hi, ho => by
    have hlen := bytesOf_len L1
    have h2l : 0 < L2.length := by cases L2 with | nil => exact absurd rfl h2 | cons a b => simp
    have hin := lenA_in (L := L1) hi
    have hx : E10 ((bytesOf L1).drop i) := hE.drop (by omega)
    have hll : (L1 ++ L2).length = L1.length + L2.length := List.length_append
    have hB : (bytesOf (L1 ++ L2)).drop i = (bytesOf L1).drop i ++ bytesOf L2 := by rw [bytes_app, List.drop_append_of_le_length (by omega)]
    rw [fromA_step hi] at ho
    rw [fromA_step (L := L1 ++ L2) (by omega), hB]
    by_cases ho1 : item ((bytesOf L1).drop i) = .opn
    · rcases item_opn_app hx ho1 (bytesOf L2) with ⟨h3, h4⟩ | ⟨n, hn, h3⟩
      · left
        refine ⟨h4, ?_⟩
        rw [h3]
        simp only [lenA]
        rw [fromA_end (by omega)]
        exact opnA_end _ _ _
      · right
        refine ⟨n, stepA (L1 ++ L2) sz i b (.gap (((bytesOf L1).drop i).length + n)), hn, ?_⟩
        rw [h3]
        simp only [lenA]
        rw [List.length_drop, hlen, show i + (L1.length - i + n) = L1.length + n from by omega]
    · rw [item_app hx ho1]
      have hlA : lenA (L1 ++ L2) i (item ((bytesOf L1).drop i)) = lenA L1 i (item ((bytesOf L1).drop i)) := by
        cases hc : item ((bytesOf L1).drop i) with
        | nl => rfl
        | gap n => rfl
        | opn => exact absurd hc ho1
        | tk k n => rfl
      rw [hlA]
      by_cases hend : i + lenA L1 i (item ((bytesOf L1).drop i)) = L1.length
      · exfalso
        have hnl := item_last hE hi ho1 hend
        rw [hend, fromA_end (Nat.le_refl _), hnl] at ho
        simp only [stepA, opnA_end] at ho
        cases ho
      · exact open_first sz1 sz hE h2 m _ _ _ (by omega) (by omega) ho

/-- A comment that is open goes on into the next piece as if it began there. -/
theorem open_step {P T : List UInt8} (hP : E10 P) (hPs : spB P = false) (ho : opnA (FL P) = true) (hT : E10 T) (hTs : spB T = false) : opnA (FL (P ++ T)) = opnA (FL ([47, 42] ++ T)) := by
  have cP := chs_shut hP hPs
  have cT := chs_shut hT hTs
  have hTb : chs T 0 ≠ [] := by
    have := chs_some hT hTs (b := [])
    rwa [List.append_nil] at this
  have e1 := charsL_app hP hPs hTb
  have hw : Whole [47, 42] := ⟨fun _ => by decide, fun h => by simp at h⟩
  have e2 : charsL ([47, 42] ++ T) = ([⟨47, 0, 1⟩, ⟨42, 1, 2⟩] : List Rn) ++ (charsL T).map (sh 2) := by
    have h := chs_append hw (b := T)
    rw [show chs [47, 42] 0 = ([⟨47, 0, 1⟩, ⟨42, 1, 2⟩] : List Rn) from by rfl] at h
    have hE : E10 ([47, 42] ++ T) := hT.app
    have hS : spB ([47, 42] ++ T) = false := by
      cases hq : spB ([47, 42] ++ T) with
      | false => rfl
      | true =>
        exfalso
        have h0 := hT.1
        unfold spB at hq
        rw [Bool.or_eq_true] at hq
        have hgl : ∀ j, j < T.length → ([47, 42] ++ T).getD (([47, 42] ++ T).length - 1 - j) 0 = T.getD (T.length - 1 - j) 0 := by
          intro j hj
          rw [List.length_append, show ([47, 42] : List UInt8).length + T.length - 1 - j = ([47, 42] : List UInt8).length + (T.length - 1 - j) from by omega, get_right]
        have hg2 : ∀ k, k < 2 → ([47, 42] ++ T).getD k 0 = ([47, 42] : List UInt8).getD k 0 := fun k hk => get_left (by simpa using hk)
        have hlen : ([47, 42] ++ T).length = T.length + 2 := by simp
        rcases hq with hq | hq
        · obtain ⟨h4, h5⟩ := suf_of hq
          have a0 := h5 0
          simp only [List.length_cons, List.length_nil] at h4 a0
          rw [hlen] at a0
          by_cases h2 : 2 ≤ T.length
          · have := hgl 1 (by omega)
            rw [hlen, show T.length + 2 - 1 - 1 = T.length + 2 - (0 + 1 + 1) + 0 from by omega, a0] at this
            have hh := suf2 h2 (by rw [show T.length - 2 = T.length - 1 - 1 from by omega]; exact this.symm) hT.2
            rw [hh] at hTs
            cases hTs
          · rw [show T.length + 2 - (0 + 1 + 1) + 0 = 1 from by omega, hg2 1 (by omega)] at a0
            exact absurd a0 (by decide)
        · obtain ⟨h4, h5⟩ := suf_of hq
          have a0 := h5 0
          have a1 := h5 1
          have a2 := h5 2
          simp only [List.length_cons, List.length_nil] at h4 a0 a1 a2
          rw [hlen] at a0 a1 a2
          by_cases h4 : 4 ≤ T.length
          · have g1 := hgl 1 (by omega)
            have g2 := hgl 2 (by omega)
            have g3 := hgl 3 (by omega)
            rw [hlen] at g1 g2 g3
            rw [show T.length + 2 - 1 - 1 = T.length + 2 - (0 + 1 + 1 + 1 + 1) + 2 from by omega, a2] at g1
            rw [show T.length + 2 - 1 - 2 = T.length + 2 - (0 + 1 + 1 + 1 + 1) + 1 from by omega, a1] at g2
            rw [show T.length + 2 - 1 - 3 = T.length + 2 - (0 + 1 + 1 + 1 + 1) + 0 from by omega, a0] at g3
            have hh := suf4 h4 (by rw [show T.length - 4 = T.length - 1 - 3 from by omega]; exact g3.symm) (by rw [show T.length - 3 = T.length - 1 - 2 from by omega]; exact g2.symm) (by rw [show T.length - 2 = T.length - 1 - 1 from by omega]; exact g1.symm) hT.2
            rw [hh] at hTs
            cases hTs
          · have h3 : T.length = 2 ∨ T.length = 3 ∨ T.length = 1 := by omega
            rcases h3 with h3 | h3 | h3
            · rw [h3, show 2 + 2 - (0 + 1 + 1 + 1 + 1) + 0 = 0 from rfl, hg2 0 (by omega)] at a0
              exact absurd a0 (by decide)
            · rw [h3, show 3 + 2 - (0 + 1 + 1 + 1 + 1) + 0 = 1 from rfl, hg2 1 (by omega)] at a0
              exact absurd a0 (by decide)
            · rw [hlen] at *
              omega
    rw [(chs_shut hE hS).1, h, ← cT.1]
    rfl
  have hne : (charsL T).map (sh P.length) ≠ [] := by
    rw [cT.1]
    simpa using hTb
  have hne2 : (charsL T).map (sh 2) ≠ [] := by
    rw [cT.1]
    simpa using hTb
  have hlT : 0 < (charsL T).length := by
    rw [cT.1]
    exact List.length_pos_iff.2 hTb
  have hPl : 0 < (charsL P).length := by
    have := cP.2.1.1
    rwa [bytesOf_len] at this
  have r1 := open_first P.length (P ++ T).length cP.2.1 hne _ 0 acc0 acc0 (Nat.le_refl _) hPl ho
  have hc0 : ((charsL T).map (sh 2)).length = (charsL T).length := by simp
  have hbT : bytesOf ((charsL T).map (sh P.length)) = bytesOf (charsL T) := bytes_sh _ _
  rw [hbT] at r1
  -- the other side's first item
  have hB2 : bytesOf (([⟨47, 0, 1⟩, ⟨42, 1, 2⟩] : List Rn) ++ (charsL T).map (sh 2)) = [47, 42] ++ bytesOf (charsL T) := by rw [bytes_app, bytes_sh]; rfl
  have hbeg : begN ((bytesOf (([⟨47, 0, 1⟩, ⟨42, 1, 2⟩] : List Rn) ++ (charsL T).map (sh 2))).drop 0) = 5 := by
    rw [hB2]
    rfl
  have hlen2 : (([⟨47, 0, 1⟩, ⟨42, 1, 2⟩] : List Rn) ++ (charsL T).map (sh 2)).length = 2 + (charsL T).length := by
    rw [List.length_append, List.length_map]
    rfl
  have hstep := fromA_step (L := ([⟨47, 0, 1⟩, ⟨42, 1, 2⟩] : List Rn) ++ (charsL T).map (sh 2)) (sz := ([47, 42] ++ T).length) (i := 0) (a := acc0) (by omega)
  have hL : FL ([47, 42] ++ T) = fromA (([⟨47, 0, 1⟩, ⟨42, 1, 2⟩] : List Rn) ++ (charsL T).map (sh 2)) ([47, 42] ++ T).length 0 acc0 := by
    unfold FL
    rw [e2]
    rfl
  have hR : FL (P ++ T) = fromA (charsL P ++ (charsL T).map (sh P.length)) (P ++ T).length 0 acc0 := by
    unfold FL
    rw [e1]
    rfl
  rw [hR, hL, hstep]
  rcases r1 with ⟨hcn, h1⟩ | ⟨n, c, hcn, h1⟩
  · rw [h1, item_opn hbeg (by rw [hB2]; exact hcn)]
    simp only [lenA]
    rw [fromA_end (by omega)]
    exact (opnA_end _ _ _).symm
  · rw [h1, item_com hbeg (n := n) (by rw [hB2]; exact hcn)]
    simp only [lenA]
    have hci := comN_in _ n hcn
    rw [bytesOf_len] at hci
    have hlt : n < (charsL T).length := by
      rcases Nat.lt_or_ge n (charsL T).length with h3 | h3
      · exact h3
      · exfalso
        have e : n = (charsL T).length := by omega
        have h4 := hci.2.2
        have h5 := cT.2.1.2
        rw [bytesOf_len, ← e, h4] at h5
        exact absurd h5 (by decide)
    rw [open_second P.length (P ++ T).length T.length cT.2.1 _ n c acc0 (Nat.le_refl _) hlt]
    rw [show 0 + (n + 2) = ([⟨47, 0, 1⟩, ⟨42, 1, 2⟩] : List Rn).length + n from by simp; omega]
    exact (open_second 2 ([47, 42] ++ T).length T.length cT.2.1 _ n _ acc0 (Nat.le_refl _) hlt).symm

end Go.Proofs.YtpnboieppkjfnaaGreat
