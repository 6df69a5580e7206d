/-
  Texts of the proof, put together: AgColR, AgCutL, GrL, GrMem, GrSame, GrInts, AgCuts, AgColW, AgCutW.
-/
import Derived.Test.YtobplffailbkbaaG24
import Derived.BigRegion
import Derived.Test.YtobplffailbkbaaG01
import Derived.Test.YtobplffailbkbaaG11
import Derived.StillTailTactics

/-
  The document's Collect, walked.
-/
namespace Go.Proofs.Ytobplffailbkbaa
open Go.RowKit

/-- What a Collect answers. -/
def ColPost (W : World) (R : Option (List (List Xt) × List Xt × Nat)) (e : Ending) (w' : World) : Prop :=
  match R with
  | none => e = .returned (.tuple #[.slice none 0 0, .slice none 0 0, .int .i64 0, .bool false]) ∧ Below W.heap.size W w'
  | some (A, C, k) => ∃ al nl cl ac nc cc, e = .returned (.tuple #[.slice al nl cl, .slice ac nc cc, .int .i64 (k : Int), .bool true]) ∧ nl = A.length ∧ nc = C.length ∧ RowsX A (.slice al nl cl) w' ∧ ToksX C (.slice ac nc cc) w' ∧ Below W.heap.size W w'

theorem sign_one {t : Xt} {a b : ByteArray} (h : isX t a = true) (hab : a ≠ b) : isX t b = false := by
  rw [isX_eq, Bool.and_eq_true, decide_eq_true_eq, decide_eq_true_eq] at h
  rw [isX_eq, h.2, decide_eq_false hab, Bool.and_false]

/-- As far as it is collected. -/
structure RcS (W : World) (T : List Xt) (d i : Nat) (P : List (Xt × Value)) (al : Option Addr) (nl cl : Nat) (ac : Option Addr) (nc cc : Nat) (bn : Option Addr) (nn cn : Nat) (w : World) : Prop where
  st : ∃ ls cs, CR W ls cs al nl cl ac nc cc w ∧ HeldIn (NotHot al ac) w (ToksPv P (.slice bn nn cn)) ∧ collectL T = colL d (T.drop i) (P.map Prod.fst) ls cs i ∧ nl ≤ i ∧ nc ≤ i ∧ nn ≤ i
theorem RcS.over {W : World} {T : List Xt} {d i : Nat} {P : List (Xt × Value)} {al : Option Addr} {nl cl : Nat} {ac : Option Addr} {nc cc : Nat} {bn : Option Addr} {nn cn : Nat} {w w' : World} (h : RcS W T d i P al nl cl ac nc cc bn nn cn w) (b : Below w.heap.size w w') : RcS W T d i P al nl cl ac nc cc bn nn cn w' := by
  obtain ⟨ls, cs, h1, h2, h3⟩ := h.st
  exact ⟨ls, cs, h1.over b, h2.over (StillB.of_below b), h3⟩
theorem RcS.start {W : World} {t : Xt} {r : List Xt} (h : isX t oB = true) : RcS W (t :: r) 0 1 [] none 0 0 none 0 0 none 0 0 W :=
  ⟨[], [], CR.nil W, pv_nil_held _ _, by show (if isX t oB then _ else _) = _; rw [if_pos h]; rfl, by omega, by omega, by omega⟩

/-- The end of it. -/
theorem RcS.shut {W : World} {T : List Xt} {i : Nat} {P : List (Xt × Value)} {al : Option Addr} {nl cl : Nat} {ac : Option Addr} {nc cc : Nat} {bn : Option Addr} {nn cn : Nat} {w : World} {ty : TypeId} (h : RcS W T 0 i P al nl cl ac nc cc bn nn cn w) {t : Xt} (ht : T[i]? = some t) (hb : isX t cB = true) (hi : i ≤ 400000) {sv : Value} (hs : Src w sv 1 1 [.slice bn nn cn]) :
    ∃ b n' cap w', (Builtin.append_ #[34, 34] ty #[.slice al nl cl, sv]).run Try.prog w = .ok (.slice (some ⟨b, 0, none⟩) n' cap) w' ∧ ColPost W (collectL T) (.returned (.tuple #[.slice (some ⟨b, 0, none⟩) n' cap, .slice ac nc cc, .int .i64 ((i : Int) + 1), .bool true])) w' := by
  obtain ⟨ls, cs, hC, hN, hE, h1, h2, h3⟩ := h.st
  obtain ⟨b, n', cap, w', hr, hn', hC', -⟩ := hC.pushL (ty := ty) hN.xP hN.now.len.2.2.2 hs (by omega)
  refine ⟨b, n', cap, w', hr, ?_⟩
  have hd : T.drop i = t :: T.drop (i + 1) := by
    obtain ⟨hl, rfl⟩ := List.getElem?_eq_some_iff.1 ht
    rw [List.drop_eq_getElem_cons hl]
  have e : collectL T = some (ls ++ [P.map Prod.fst], cs, i + 1) := by
    rw [hE, hd]
    show (if decide (0 = 0) && isX t cB then _ else _) = _
    rw [hb]
    rfl
  rw [e]
  obtain ⟨g1, g2, g3, g4⟩ := hC'.done
  exact ⟨_, _, _, _, _, _, rfl, g1, g3, g2, g4, hC'.bel⟩
/-- A comma: half way. -/
def Cm1 (W : World) (T : List Xt) (i : Nat) (al : Option Addr) (nl cl : Nat) (ac : Option Addr) (nc cc : Nat) (w : World) : Prop := ∃ ls cs now, CR W (ls ++ [now]) cs al nl cl ac nc cc w ∧ collectL T = colL 0 (T.drop i) now ls cs i ∧ nl ≤ i + 1 ∧ nc ≤ i
theorem Cm1.over {W : World} {T : List Xt} {i : Nat} {al : Option Addr} {nl cl : Nat} {ac : Option Addr} {nc cc : Nat} {w w' : World} (h : Cm1 W T i al nl cl ac nc cc w) (b : Below w.heap.size w w') : Cm1 W T i al nl cl ac nc cc w' := by
  obtain ⟨ls, cs, now, hC, h1⟩ := h
  exact ⟨ls, cs, now, hC.over b, h1⟩
/-- A comma. -/
theorem RcS.comma1 {W : World} {T : List Xt} {i : Nat} {P : List (Xt × Value)} {al : Option Addr} {nl cl : Nat} {ac : Option Addr} {nc cc : Nat} {bn : Option Addr} {nn cn : Nat} {w : World} {ty : TypeId} (h : RcS W T 0 i P al nl cl ac nc cc bn nn cn w) (hi : i ≤ 400000) {sv : Value} (hs : Src w sv 1 1 [.slice bn nn cn]) :
    ∃ b n' cap w', (Builtin.append_ #[34, 34] ty #[.slice al nl cl, sv]).run Try.prog w = .ok (.slice (some ⟨b, 0, none⟩) n' cap) w' ∧ (Below W.heap.size W w' ∧ Cm1 W T i (some ⟨b, 0, none⟩) n' cap ac nc cc w') := by
  obtain ⟨ls, cs, hC, hN, hE, h1, h2, h3⟩ := h.st
  obtain ⟨b, n', cap, w', hr, hn', hC', -⟩ := hC.pushL (ty := ty) hN.xP hN.now.len.2.2.2 hs (by omega)
  exact ⟨b, n', cap, w', hr, hC'.bel, ls, cs, _, hC', hE, by omega, h2⟩
theorem comma2 {W : World} {T : List Xt} {i : Nat} {al : Option Addr} {nl cl : Nat} {ac : Option Addr} {nc cc : Nat} {w : World} {ty : TypeId} (h : Cm1 W T i al nl cl ac nc cc w) (hi : i ≤ 400000) {t : Xt} {sa : Option Addr} {sn sc : Nat} (ht : T[i]? = some t) (hb : isX t kB = true) (hw : SitsA t.ss (.slice sa sn sc) W) {sv : Value} (hs : Src w sv 1 8 (xcell (t, .slice sa sn sc))) :
    ∃ b n' cap w', (Builtin.append_ #[28, 28] ty #[.slice ac nc cc, sv]).run Try.prog w = .ok (.slice (some ⟨b, 0, none⟩) n' cap) w' ∧ (Below W.heap.size W w' ∧ RcS W T 0 (i + 1) [] al nl cl (some ⟨b, 0, none⟩) n' cap none 0 0 w') := by
  obtain ⟨ls, cs, now, hC, hE, h1, h2⟩ := h
  obtain ⟨b, n', cap, w', hr, hn', hC', -⟩ := hC.pushC (ty := ty) (t := t) (hC.old (hw.held fun _ _ h => (h trivial).elim)) hs (by omega)
  refine ⟨b, n', cap, w', hr, hC'.bel, ⟨_, _, hC', pv_nil_held _ _, ?_, h1, by omega, by omega⟩⟩
  have hd : T.drop i = t :: T.drop (i + 1) := by
    obtain ⟨hl, rfl⟩ := List.getElem?_eq_some_iff.1 ht
    rw [List.drop_eq_getElem_cons hl]
  rw [hE, hd]
  show (if decide (0 = 0) && isX t cB then _ else if decide (0 = 0) && isX t kB then _ else _) = _
  rw [hb, sign_one hb (by decide)]
  rfl
/-- A token more. -/
def deepN (d : Nat) (t : Xt) : Nat := if isX t oB then d + 1 else if isX t cB then d - 1 else d
theorem RcS.more {W : World} {T : List Xt} {d i : Nat} {P : List (Xt × Value)} {al : Option Addr} {nl cl : Nat} {ac : Option Addr} {nc cc : Nat} {bn : Option Addr} {nn cn : Nat} {w w' : World} (h : RcS W T d i P al nl cl ac nc cc bn nn cn w) {t : Xt} {sv : Value} (ht : T[i]? = some t) (h0 : d = 0 → isX t cB = false ∧ isX t kB = false) (hw : SitsA t.ss sv W) {b : Option Addr} {n c : Nat} (hn : n = nn + 1) (hu : Up w 26 8 (.slice b n c) n (xcells P ++ xcell (t, sv)) w') : RcS W T (deepN d t) (i + 1) (P ++ [(t, sv)]) al nl cl ac nc cc b n c w' := by
  obtain ⟨ls, cs, hC, hN, hE, h1, h2, h3⟩ := h.st
  have hC' := hC.over hu.2
  refine ⟨ls, cs, hC', ?_, ?_, by omega, by omega, by omega⟩
  · rw [← xcells_snoc] at hu
    refine pv_held hu.1 (fun p hp => ?_) fun g hg => ?_
    · rcases List.mem_append.1 hp with hp | hp
      · exact (hN.sitsP p hp).over (StillB.of_below hu.2)
      · simp only [List.mem_cons, List.not_mem_nil, or_false] at hp
        subst hp
        exact hC'.old (hw.held fun _ _ h => (h trivial).elim)
    · have hg1 := (World.ownsRow.lt hu.1 g hg).1
      obtain ⟨⟨V, -, ho, -⟩, ⟨Q, -, hq, -⟩, -⟩ := hC
      refine ⟨fun e => ?_, fun e => ?_⟩
      · have := (World.ownsRow.lt ho g (by rw [e]; rfl)).2
        omega
      · have := (World.ownsRow.lt hq g (by rw [e]; rfl)).2
        omega
  · have hd : T.drop i = t :: T.drop (i + 1) := by
      obtain ⟨hl, rfl⟩ := List.getElem?_eq_some_iff.1 ht
      rw [List.drop_eq_getElem_cons hl]
    rw [hE, hd]
    show (if decide (d = 0) && isX t cB then _ else if decide (d = 0) && isX t kB then _ else colL (deepN d t) _ _ ls cs _) = _
    have e1 : (decide (d = 0) && isX t cB) = false := by
      by_cases e : d = 0
      · rw [(h0 e).1, Bool.and_false]
      · rw [decide_eq_false e]; rfl
    have e2 : (decide (d = 0) && isX t kB) = false := by
      by_cases e : d = 0
      · rw [(h0 e).2, Bool.and_false]
      · rw [decide_eq_false e]; rfl
    rw [e1, e2, List.map_append]
    rfl

end Go.Proofs.Ytobplffailbkbaa

/-
  Where arguments are cut, over lists.
-/
namespace Go.Proofs.Ytobplffailbkbaa
open Go.RowKit

/-- The places: from one on. -/
def cutL : Nat → List Xt → Nat → List Nat → Option (List Nat)
  | _, [], _, _ => none
  | d, t :: r, i, ms =>
    if isX t oB then cutL (d + 1) r (i + 1) ms
    else if isX t cB then (if d = 0 then some (ms ++ [i]) else cutL (d - 1) r (i + 1) ms)
    else if decide (d = 0) && isX t kB then cutL d r (i + 1) (ms ++ [i])
    else cutL d r (i + 1) ms
def cutsL : List Xt → Option (List Nat)
  | [] => none
  | t :: r => if isX t oB then cutL 0 r 1 [0] else none

/-- What stands between two places. -/
def segL (T : List Xt) (a b : Nat) : List Xt := (T.drop (a + 1)).take (b - (a + 1))
def segsL (T : List Xt) : List Nat → List (List Xt)
  | a :: b :: r => segL T a b :: segsL T (b :: r)
  | _ => []
theorem segs_len (T : List Xt) : ∀ M : List Nat, (segsL T M).length = M.length - 1
  | [] => rfl
  | [a] => rfl
  | a :: b :: r => by
    have := segs_len T (b :: r)
    simp only [segsL, List.length_cons] at this ⊢
    omega
theorem segs_snoc (T : List Xt) : ∀ (M : List Nat) (a b : Nat), segsL T (M ++ [a, b]) = segsL T (M ++ [a]) ++ [segL T a b]
  | [], a, b => rfl
  | [x], a, b => rfl
  | x :: y :: r, a, b => by
    have := segs_snoc T (y :: r) a b
    show segL T x y :: segsL T ((y :: r) ++ [a, b]) = segL T x y :: segsL T ((y :: r) ++ [a]) ++ [segL T a b]
    rw [this]
    rfl
theorem segs_get (T : List Xt) : ∀ (M : List Nat) (k a b : Nat), M[k]? = some a → M[k + 1]? = some b → (segsL T M)[k]? = some (segL T a b)
  | [], k, a, b, h, _ => by simp at h
  | [x], k, a, b, h, h2 => by simp at h2
  | x :: y :: r, 0, a, b, h, h2 => by
    simp only [List.getElem?_cons_zero, Option.some.injEq, List.getElem?_cons_succ, Nat.zero_add] at h h2
    subst h h2
    rfl
  | x :: y :: r, k + 1, a, b, h, h2 => by
    have := segs_get T (y :: r) k a b (by simpa using h) (by simpa using h2)
    show (segL T x y :: segsL T (y :: r))[k + 1]? = _
    rw [List.getElem?_cons_succ]
    exact this
/-- The places rise, and lie within. -/
def Rises (n : Nat) (M : List Nat) : Prop := ∀ k a b, M[k]? = some a → M[k + 1]? = some b → a + 1 ≤ b ∧ b < n
theorem seg_snoc {T : List Xt} {a i : Nat} {t : Xt} (h : a + 1 ≤ i) (ht : T[i]? = some t) : segL T a (i + 1) = segL T a i ++ [t] := by
  unfold segL
  rw [show i + 1 - (a + 1) = i - (a + 1) + 1 from by omega, List.take_add_one, List.getElem?_drop, show a + 1 + (i - (a + 1)) = i from by omega, ht]
  rfl
theorem seg_nil (T : List Xt) (a : Nat) : segL T a (a + 1) = [] := by
  unfold segL
  rw [Nat.sub_self, List.take_zero]

/-- The tokens at places. -/
def picksL (T : List Xt) (M : List Nat) : List Xt := M.filterMap fun i => T[i]?
theorem picks_snoc {T : List Xt} {i : Nat} {t : Xt} (M : List Nat) (ht : T[i]? = some t) : picksL T (M ++ [i]) = picksL T M ++ [t] := by
  unfold picksL
  rw [List.filterMap_append]
  simp [ht]

theorem drop_init {α : Type} {L : List α} (h : 1 ≤ L.length) (i : α) : ((L ++ [i]).drop 1).dropLast = L.drop 1 := by
  rw [List.drop_append_of_le_length h, List.dropLast_concat]
/-- Cut, it is what is collected. -/
theorem cut_col (T0 : List Xt) : ∀ (d : Nat) (T : List Xt) (i : Nat) (M : List Nat) (a : Nat), T0.drop i = T → a + 1 ≤ i → Rises T0.length (M ++ [a]) → (∀ x ∈ M ++ [a], x < T0.length) →
    colL d T (segL T0 a i) (segsL T0 (M ++ [a])) (picksL T0 ((M ++ [a]).drop 1)) i = (cutL d T i (M ++ [a])).map (fun K => (segsL T0 K, picksL T0 ((K.drop 1).dropLast), K.getLastD 0 + 1)) ∧
    ∀ K, cutL d T i (M ++ [a]) = some K → Rises T0.length K ∧ 2 ≤ K.length ∧ (∀ x ∈ K, x < T0.length) ∧ K[0]? = (M ++ [a])[0]?
  | d, [], i, M, a, hT, ha, hR, hB => ⟨rfl, fun K h => by cases h⟩
  | d, t :: r, i, M, a, hT, ha, hR, hB => by
    have ht : T0[i]? = some t := by
      have := congrArg (fun l => l[0]?) hT
      simpa [List.getElem?_drop] using this
    have hi : i < T0.length := (List.getElem?_eq_some_iff.1 ht).1
    have hr : T0.drop (i + 1) = r := by
      rw [← List.drop_drop, hT]
      rfl
    have hmem : ∀ x ∈ (M ++ [a]) ++ [i], x < T0.length := by
      intro x hx
      rcases List.mem_append.1 hx with hx | hx
      · exact hB x hx
      · simp only [List.mem_cons, List.not_mem_nil, or_false] at hx
        rw [hx]; exact hi
    have hup : Rises T0.length ((M ++ [a]) ++ [i]) := by
      intro k x y hx hy
      rcases Nat.lt_or_ge (k + 1) (M ++ [a]).length with hk | hk
      · rw [List.getElem?_append_left hk] at hy
        rw [List.getElem?_append_left (by omega)] at hx
        exact hR k x y hx hy
      · have hl := (List.getElem?_eq_some_iff.1 hy).1
        simp only [List.length_append, List.length_cons, List.length_nil] at hl hk
        obtain rfl : k = M.length := by omega
        rw [List.append_assoc, List.getElem?_append_right (by omega)] at hx
        rw [List.append_assoc, List.getElem?_append_right (by omega)] at hy
        simp at hx hy
        subst hx hy
        exact ⟨ha, hi⟩
    show (if decide (d = 0) && isX t cB then _ else if decide (d = 0) && isX t kB then _ else _) = _ ∧ ∀ K, (if isX t oB then _ else if isX t cB then _ else if decide (d = 0) && isX t kB then _ else _) = _ → _
    have e : cutL d (t :: r) i (M ++ [a]) = (if isX t oB then cutL (d + 1) r (i + 1) (M ++ [a]) else if isX t cB then (if d = 0 then some ((M ++ [a]) ++ [i]) else cutL (d - 1) r (i + 1) (M ++ [a])) else if decide (d = 0) && isX t kB then cutL d r (i + 1) ((M ++ [a]) ++ [i]) else cutL d r (i + 1) (M ++ [a])) := rfl
    rw [e]
    have one : ∀ d', ((decide (d = 0) && isX t cB) = false) → ((decide (d = 0) && isX t kB) = false) → (if isX t oB then d + 1 else if isX t cB then d - 1 else d) = d' → (if decide (d = 0) && isX t cB then some (segsL T0 (M ++ [a]) ++ [segL T0 a i], picksL T0 ((M ++ [a]).drop 1), i + 1) else if decide (d = 0) && isX t kB then colL 0 r [] (segsL T0 (M ++ [a]) ++ [segL T0 a i]) (picksL T0 ((M ++ [a]).drop 1) ++ [t]) (i + 1) else colL (if isX t oB then d + 1 else if isX t cB then d - 1 else d) r (segL T0 a i ++ [t]) (segsL T0 (M ++ [a])) (picksL T0 ((M ++ [a]).drop 1)) (i + 1)) = colL d' r (segL T0 a (i + 1)) (segsL T0 (M ++ [a])) (picksL T0 ((M ++ [a]).drop 1)) (i + 1) := by
      intro d' h1 h2 h3
      rw [h1, h2, h3, seg_snoc ha ht]
      rfl
    cases ho : isX t oB with
    | true =>
      have hc := sign_one ho (b := cB) (by decide)
      have hk := sign_one ho (b := kB) (by decide)
      have ih := cut_col T0 (d + 1) r (i + 1) M a hr (by omega) hR hB
      refine ⟨?_, ?_⟩
      · rw [ho] at one
        rw [one (d + 1) (by rw [hc, Bool.and_false]) (by rw [hk, Bool.and_false]) rfl]
        exact ih.1
      · exact ih.2
    | false =>
      cases hc : isX t cB with
      | true =>
        have hk : isX t kB = false := sign_one hc (by decide)
        by_cases hd : d = 0
        · subst hd
          refine ⟨?_, ?_⟩
          · show some (segsL T0 (M ++ [a]) ++ [segL T0 a i], picksL T0 ((M ++ [a]).drop 1), i + 1) = some _
            rw [List.append_assoc]
            show _ = some (segsL T0 (M ++ [a, i]), _, _)
            rw [segs_snoc]
            congr 3
            · rw [← List.append_assoc, drop_init (by simp)]
            · rw [← List.append_assoc]
              simp
          · intro K hK
            obtain rfl : (M ++ [a]) ++ [i] = K := by simpa using hK
            exact ⟨hup, by simp, hmem, by rw [List.getElem?_append_left (by simp)]⟩
        · have ih := cut_col T0 (d - 1) r (i + 1) M a hr (by omega) hR hB
          have hd' : decide (d = 0) = false := decide_eq_false hd
          refine ⟨?_, ?_⟩
          · rw [ho, hc] at one
            rw [one (d - 1) (by rw [hd']; rfl) (by rw [hd']; rfl) rfl, ih.1]
            simp [hd]
          · rw [if_neg (by simp), if_pos rfl, if_neg hd]
            exact ih.2
      | false =>
        by_cases hdk : (decide (d = 0) && isX t kB) = true
        · rw [Bool.and_eq_true, decide_eq_true_eq] at hdk
          obtain ⟨hd, hk⟩ := hdk
          subst hd
          have ih := cut_col T0 0 r (i + 1) (M ++ [a]) i hr (by omega) hup hmem
          refine ⟨?_, ?_⟩
          · rw [hk]
            show colL 0 r [] (segsL T0 (M ++ [a]) ++ [segL T0 a i]) (picksL T0 ((M ++ [a]).drop 1) ++ [t]) (i + 1) = Option.map _ (cutL 0 r (i + 1) ((M ++ [a]) ++ [i]))
            rw [← ih.1, seg_nil, ← segs_snoc, ← picks_snoc _ ht, show M ++ [a, i] = (M ++ [a]) ++ [i] from by simp, ← List.drop_append_of_le_length (by simp)]
          · rw [hk]
            intro K hK
            obtain ⟨h1, h2, h3, h4⟩ := ih.2 K hK
            exact ⟨h1, h2, h3, by rw [h4, List.getElem?_append_left (by simp)]⟩
        · have hdk : (decide (d = 0) && isX t kB) = false := by simpa using hdk
          have ih := cut_col T0 d r (i + 1) M a hr (by omega) hR hB
          refine ⟨?_, ?_⟩
          · rw [ho, hc] at one
            rw [one d (by rw [Bool.and_false]) hdk rfl, ih.1, hdk]
            rfl
          · rw [hdk]
            exact ih.2

theorem cuts_col (T : List Xt) : collectL T = (cutsL T).map (fun K => (segsL T K, picksL T ((K.drop 1).dropLast), K.getLastD 0 + 1)) ∧ ∀ K, cutsL T = some K → Rises T.length K ∧ 2 ≤ K.length ∧ (∀ x ∈ K, x < T.length) := by
  match T with
  | [] => exact ⟨rfl, fun K h => by cases h⟩
  | t :: r =>
    show (if isX t oB then _ else _) = Option.map _ (if isX t oB then _ else _) ∧ ∀ K, (if isX t oB then _ else _) = _ → _
    cases ho : isX t oB with
    | false => exact ⟨rfl, fun K h => by cases h⟩
    | true =>
      have ih := cut_col (t :: r) 0 r 1 [] 0 rfl (by omega) (fun k a b h h2 => by simp at h2) (fun x hx => by simp at hx; subst hx; simp)
      refine ⟨ih.1, fun K hK => ?_⟩
      obtain ⟨h1, h2, h3, -⟩ := ih.2 K hK
      exact ⟨h1, h2, h3⟩

end Go.Proofs.Ytobplffailbkbaa

/-
  Items within items, over lists: which lines they have, and how deep they stand.
-/
namespace Go.Proofs.Ytobplffailbkbaa

/-- An item: its kind, its line, its arms. -/
inductive Itm where
  | mk (k line : Int) (arms : List (Int × List Itm))
def Itm.k : Itm → Int | .mk k _ _ => k
def Itm.line : Itm → Int | .mk _ l _ => l
def Itm.arms : Itm → List (Int × List Itm) | .mk _ _ a => a

/-- No deeper than that. -/
def Fits : Nat → List Itm → Prop
  | 0, l => ∀ it ∈ l, it.arms = []
  | d + 1, l => ∀ it ∈ l, ∀ a ∈ it.arms, Fits d a.2

/-- The lines, in order. -/
def flatI (F : List Itm → List Int) (it : Itm) : List Int := if it.arms = [] then [it.line] else it.arms.flatMap fun a => a.1 :: F a.2
def flatF : Nat → List Itm → List Int
  | 0, l => l.map Itm.line
  | d + 1, l => l.flatMap (flatI (flatF d))
/-- How deep. -/
def deepI (D : List Itm → Nat) (n : Nat) (it : Itm) : Nat := it.arms.foldl (fun n a => max n (1 + D a.2)) n
def deepF : Nat → List Itm → Nat
  | 0, _ => 0
  | d + 1, l => l.foldl (deepI (deepF d)) 0

theorem flat_zero {l : List Itm} (h : ∀ it ∈ l, it.arms = []) (F : List Itm → List Int) : l.flatMap (flatI F) = l.map Itm.line := by
  induction l with
  | nil => rfl
  | cons a r ih =>
    rw [List.flatMap_cons, List.map_cons, ih fun it hit => h it (List.mem_cons_of_mem _ hit)]
    unfold flatI
    rw [if_pos (h a List.mem_cons_self)]
    rfl

theorem flatMap_same {α β : Type} {f g : α → List β} : ∀ {l : List α}, (∀ a ∈ l, f a = g a) → l.flatMap f = l.flatMap g
  | [], _ => rfl
  | a :: r, h => by rw [List.flatMap_cons, List.flatMap_cons, h a List.mem_cons_self, flatMap_same fun b hb => h b (List.mem_cons_of_mem _ hb)]
theorem foldl_same {α : Type} {f g : Nat → α → Nat} : ∀ {l : List α} {n : Nat}, (∀ n, ∀ a ∈ l, f n a = g n a) → l.foldl f n = l.foldl g n
  | [], _, _ => rfl
  | a :: r, n, h => by rw [List.foldl_cons, List.foldl_cons, h n a List.mem_cons_self, foldl_same fun n b hb => h n b (List.mem_cons_of_mem _ hb)]

/-- More fuel changes nothing. -/
theorem flat_more : ∀ (d : Nat) (l : List Itm), Fits d l → flatF (d + 1) l = flatF d l
  | 0, l, h => flat_zero h _
  | d + 1, l, h => by
    show l.flatMap (flatI (flatF (d + 1))) = l.flatMap (flatI (flatF d))
    refine flatMap_same fun it hit => ?_
    unfold flatI
    split
    · rfl
    · exact flatMap_same fun a ha => by rw [flat_more d a.2 (h it hit a ha)]
theorem deep_zero {l : List Itm} (h : ∀ it ∈ l, it.arms = []) (D : List Itm → Nat) : ∀ n, l.foldl (deepI D) n = n := by
  induction l with
  | nil => intro n; rfl
  | cons a r ih =>
    intro n
    rw [List.foldl_cons, ih fun it hit => h it (List.mem_cons_of_mem _ hit)]
    unfold deepI
    rw [h a List.mem_cons_self]
    rfl
theorem deep_more : ∀ (d : Nat) (l : List Itm), Fits d l → deepF (d + 1) l = deepF d l
  | 0, l, h => deep_zero h _ 0
  | d + 1, l, h => by
    show l.foldl (deepI (deepF (d + 1))) 0 = l.foldl (deepI (deepF d)) 0
    refine foldl_same fun n it hit => ?_
    exact foldl_same fun m a ha => by rw [deep_more d a.2 (h it hit a ha)]

theorem fits_more : ∀ (d : Nat) (l : List Itm), Fits d l → Fits (d + 1) l
  | 0, l, h => fun it hit a ha => by rw [h it hit] at ha; cases ha
  | d + 1, l, h => fun it hit a ha => fits_more d a.2 (h it hit a ha)

end Go.Proofs.Ytobplffailbkbaa

/-
  Items that lie somewhere: their arms too, and what is in them.
-/
namespace Go.Proofs.Ytobplffailbkbaa
open Go.RowKit

abbrev RelI := List Itm → Value → World → Prop
def ItmA (it : Itm) (av : Value) (g o : Nat) (w : World) : Prop := w.cell? ⟨g, o, none⟩ = some (.int .i64 it.k) ∧ w.cell? ⟨g, o + 1, none⟩ = some (.int .i64 it.line) ∧ w.cell? ⟨g, o + 2, none⟩ = some av
def ArmA (x : Int × List Itm) (iv : Value) (g o : Nat) (w : World) : Prop := w.cell? ⟨g, o, none⟩ = some (.int .i64 x.1) ∧ w.cell? ⟨g, o + 1, none⟩ = some iv
def ArmsOf (R : RelI) (qs : List (Int × List Itm)) (av : Value) (w : World) : Prop :=
  ∃ a cap, av = .slice a qs.length cap ∧ qs.length ≤ cap ∧ cap ≤ maxLen ∧ ∀ j x, qs[j]? = some x → ∃ g o, a = some ⟨g, o, none⟩ ∧ g < w.heap.size ∧ ∃ iv, ArmA x iv g (o + j * 2) w ∧ R x.2 iv w
def ItsOf (R : RelI) (l : List Itm) (v : Value) (w : World) : Prop :=
  ∃ a cap, v = .slice a l.length cap ∧ l.length ≤ cap ∧ cap ≤ maxLen ∧ ∀ k it, l[k]? = some it → ∃ g o, a = some ⟨g, o, none⟩ ∧ g < w.heap.size ∧ ∃ av, ItmA it av g (o + k * 3) w ∧ ArmsOf R it.arms av w
/-- Items, so deep. -/
def ItsAt : Nat → RelI
  | 0 => ItsOf fun _ _ _ => False
  | d + 1 => ItsOf (ItsAt d)

def Over (R : RelI) : Prop := ∀ l v (w w' : World), R l v w → Below w.heap.size w w' → R l v w'
theorem ArmsOf.over {R : RelI} (hR : Over R) {qs : List (Int × List Itm)} {av : Value} {w w' : World} (h : ArmsOf R qs av w) (b : Below w.heap.size w w') : ArmsOf R qs av w' := by
  obtain ⟨a, cap, hv, h1, h2, h3⟩ := h
  refine ⟨a, cap, hv, h1, h2, fun j x hx => ?_⟩
  obtain ⟨g, o, ha, hg, iv, ⟨c0, c1⟩, hr⟩ := h3 j x hx
  exact ⟨g, o, ha, Nat.lt_of_lt_of_le hg b.size, iv, ⟨bcell b c0 hg, bcell b c1 hg⟩, hR _ _ _ _ hr b⟩
theorem ItsOf.over {R : RelI} (hR : Over R) : Over (ItsOf R) := by
  intro l v w w' h b
  obtain ⟨a, cap, hv, h1, h2, h3⟩ := h
  refine ⟨a, cap, hv, h1, h2, fun k it hit => ?_⟩
  obtain ⟨g, o, ha, hg, av, ⟨c0, c1, c2⟩, hr⟩ := h3 k it hit
  exact ⟨g, o, ha, Nat.lt_of_lt_of_le hg b.size, av, ⟨bcell b c0 hg, bcell b c1 hg, bcell b c2 hg⟩, hr.over hR b⟩
theorem itsAt_over : ∀ d, Over (ItsAt d)
  | 0 => ItsOf.over fun _ _ _ _ h _ => h.elim
  | d + 1 => ItsOf.over (itsAt_over d)

theorem ItsOf.form {R : RelI} {l : List Itm} {v : Value} {w : World} (h : ItsOf R l v w) : ∃ a n cap, v = .slice a n cap ∧ n = l.length ∧ n ≤ cap ∧ cap ≤ maxLen := by
  obtain ⟨a, cap, hv, h1, h2, -⟩ := h
  exact ⟨a, _, cap, hv, rfl, h1, h2⟩
theorem ArmsOf.form {R : RelI} {qs : List (Int × List Itm)} {v : Value} {w : World} (h : ArmsOf R qs v w) : ∃ a n cap, v = .slice a n cap ∧ n = qs.length ∧ n ≤ cap ∧ cap ≤ maxLen := by
  obtain ⟨a, cap, hv, h1, h2, -⟩ := h
  exact ⟨a, _, cap, hv, rfl, h1, h2⟩
def Formed (R : RelI) : Prop := ∀ l v w, R l v w → ∃ a n cap, v = .slice a n cap ∧ n = l.length ∧ n ≤ cap ∧ cap ≤ maxLen
theorem itsAt_form : ∀ d, Formed (ItsAt d)
  | 0 => fun _ _ _ h => h.form
  | _ + 1 => fun _ _ _ h => h.form

theorem ItsOf.get {R : RelI} {l : List Itm} {a : Option Addr} {n cap : Nat} {w : World} (h : ItsOf R l (.slice a n cap) w) {k : Nat} {it : Itm} (hk : l[k]? = some it) :
    ∃ g o aa an ac, a = some ⟨g, o, none⟩ ∧ g < w.heap.size ∧ an = it.arms.length ∧ an ≤ ac ∧ ac ≤ maxLen ∧ ItmA it (.slice aa an ac) g (o + k * 3) w ∧ ArmsOf R it.arms (.slice aa an ac) w := by
  obtain ⟨a', cap', hv, -, -, h3⟩ := h
  simp only [Value.slice.injEq] at hv
  obtain ⟨g, o, ha, hg, av, hc, hr⟩ := h3 k it hk
  obtain ⟨aa, an, ac, rfl, h4, h5, h6⟩ := hr.form
  exact ⟨g, o, aa, an, ac, by rw [hv.1]; exact ha, hg, h4, h5, h6, hc, hr⟩
theorem ArmsOf.get {R : RelI} (hF : Formed R) {qs : List (Int × List Itm)} {a : Option Addr} {n cap : Nat} {w : World} (h : ArmsOf R qs (.slice a n cap) w) {j : Nat} {x : Int × List Itm} (hj : qs[j]? = some x) :
    ∃ g o ia im ic, a = some ⟨g, o, none⟩ ∧ g < w.heap.size ∧ ArmA x (.slice ia im ic) g (o + j * 2) w ∧ R x.2 (.slice ia im ic) w := by
  obtain ⟨a', cap', hv, -, -, h3⟩ := h
  simp only [Value.slice.injEq] at hv
  obtain ⟨g, o, ha, hg, iv, hc, hr⟩ := h3 j x hj
  obtain ⟨ia, im, ic, rfl, -⟩ := hF _ _ _ hr
  exact ⟨g, o, ia, im, ic, by rw [hv.1]; exact ha, hg, hc, hr⟩
theorem its_nil (R : RelI) (w : World) : ItsOf R [] (.slice none 0 0) w := ⟨none, 0, rfl, Nat.le_refl _, Nat.zero_le _, fun k s h => by simp at h⟩
theorem arms_nil (R : RelI) (w : World) : ArmsOf R [] (.slice none 0 0) w := ⟨none, 0, rfl, Nat.le_refl _, Nat.zero_le _, fun k s h => by simp at h⟩

theorem ItsOf.mono {R S : RelI} (hRS : ∀ l v w, R l v w → S l v w) {l : List Itm} {v : Value} {w : World} (h : ItsOf R l v w) : ItsOf S l v w := by
  obtain ⟨a, cap, hv, h1, h2, h3⟩ := h
  refine ⟨a, cap, hv, h1, h2, fun k it hit => ?_⟩
  obtain ⟨g, o, ha, hg, av, hc, a', cap', hv', h1', h2', h3'⟩ := h3 k it hit
  refine ⟨g, o, ha, hg, av, hc, a', cap', hv', h1', h2', fun j x hx => ?_⟩
  obtain ⟨g', o', ha', hg', iv, hc', hr⟩ := h3' j x hx
  exact ⟨g', o', ha', hg', iv, hc', hRS _ _ _ hr⟩
theorem its_more : ∀ (d : Nat) l v w, ItsAt d l v w → ItsAt (d + 1) l v w
  | 0, _, _, _, h => h.mono fun _ _ _ h => h.elim
  | d + 1, _, _, _, h => h.mono (its_more d)
theorem its_up {d e : Nat} (hde : d ≤ e) {l : List Itm} {v : Value} {w : World} (h : ItsAt d l v w) : ItsAt e l v w := by
  induction hde with
  | refl => exact h
  | step _ ih => exact its_more _ _ _ _ ih
theorem its_fits : ∀ (d : Nat) (l : List Itm) (v : Value) (w : World), ItsAt d l v w → Fits d l
  | 0, l, v, w, h => fun it hit => by
    obtain ⟨k, hk, rfl⟩ := List.getElem_of_mem hit
    obtain ⟨a, n, cap, rfl, -⟩ := h.form
    obtain ⟨-, -, aa, an, ac, -, -, -, -, -, -, a', cap', -, -, -, h3⟩ := h.get (List.getElem?_eq_getElem hk)
    cases he : (l[k]).arms with
    | nil => rfl
    | cons x r =>
      rw [he] at h3
      obtain ⟨-, -, -, -, -, -, hf⟩ := h3 0 x rfl
      exact hf.elim
  | d + 1, l, v, w, h => fun it hit x hx => by
    obtain ⟨k, hk, rfl⟩ := List.getElem_of_mem hit
    obtain ⟨j, hj, rfl⟩ := List.getElem_of_mem hx
    obtain ⟨a, n, cap, rfl, -⟩ := h.form
    obtain ⟨-, -, aa, an, ac, -, -, -, -, -, -, hr⟩ := h.get (List.getElem?_eq_getElem hk)
    obtain ⟨-, -, ia, im, ic, -, -, -, hr2⟩ := hr.get (itsAt_form d) (List.getElem?_eq_getElem hj)
    exact its_fits d _ _ _ hr2

end Go.Proofs.Ytobplffailbkbaa

/-
  Ints and SameItems, of what is the same.
-/
namespace Go.Proofs.Ytobplffailbkbaa
open Go.RowKit

/-- Numbers, as they are read. -/
def IntsR (xs : List Int) (v : Value) (w : World) : Prop :=
  ∃ a cap, v = .slice a xs.length cap ∧ xs.length ≤ cap ∧ cap ≤ maxLen ∧ ∀ j x, xs[j]? = some x → ∃ g o, a = some ⟨g, o, none⟩ ∧ g < w.heap.size ∧ w.cell? ⟨g, o + j, none⟩ = some (.int .i64 x)
theorem IntsR.over {xs : List Int} {v : Value} {w w' : World} (h : IntsR xs v w) (b : Below w.heap.size w w') : IntsR xs v w' := by
  obtain ⟨a, cap, hv, h1, h2, h3⟩ := h
  refine ⟨a, cap, hv, h1, h2, fun j x hx => ?_⟩
  obtain ⟨g, o, ha, hg, hc⟩ := h3 j x hx
  exact ⟨g, o, ha, Nat.lt_of_lt_of_le hg b.size, bcell b hc hg⟩
theorem IntsR.form {xs : List Int} {v : Value} {w : World} (h : IntsR xs v w) : ∃ a n cap, v = .slice a n cap ∧ n = xs.length ∧ n ≤ cap ∧ cap ≤ maxLen := by
  obtain ⟨a, cap, hv, h1, h2, -⟩ := h
  exact ⟨a, _, cap, hv, rfl, h1, h2⟩
theorem IntsR.get {xs : List Int} {a : Option Addr} {n cap : Nat} {w : World} (h : IntsR xs (.slice a n cap) w) {j : Nat} {x : Int} (hj : xs[j]? = some x) : ∃ g o, a = some ⟨g, o, none⟩ ∧ g < w.heap.size ∧ w.cell? ⟨g, o + j, none⟩ = some (.int .i64 x) := by
  obtain ⟨a', cap', hv, -, -, h3⟩ := h
  simp only [Value.slice.injEq] at hv
  obtain ⟨g, o, ha, hg, hc⟩ := h3 j x hj
  exact ⟨g, o, by rw [hv.1]; exact ha, hg, hc⟩

end Go.Proofs.Ytobplffailbkbaa

/-
  Rows of numbers that a call owns, as great as may be.
-/
namespace Go.Proofs.Ytobplffailbkbaa
open Go.RowKit

def ivals (xs : List Int) : List Value := xs.map fun x => .int .i64 x
theorem ivals_app (a b : List Int) : ivals (a ++ b) = ivals a ++ ivals b := by simp [ivals]
theorem ivals_one (xs : List Int) : ∀ u ∈ ivals xs, u.oneCell' = true := by
  intro u hu
  obtain ⟨x, -, rfl⟩ := List.mem_map.1 hu
  rfl
theorem Try.infoNum : (Try.prog.info? 3).map (fun i => (i.zero, i.size, i.bytes)) = some (some (.int .i64 0), 1, 8) := by kernel_rfl

/-- Appended to a row of its own. -/
theorem ints_app {W w : World} {ty : TypeId} {v sv : Value} {n m : Nat} {xs ys : List Int} (h : Up W 3 1 v n (ivals xs) w) (hs : Src w sv m 1 (ivals ys)) (hn : n + m ≤ 17592186044416) :
    ∃ v' w', (Builtin.append_ #[42, 42] ty #[v, sv]).run Try.prog w = .ok v' w' ∧ Up W 3 1 v' (n + m) (ivals (xs ++ ys)) w' := by
  obtain ⟨i0, hi, hz0, hz1, hz2⟩ := info_parts Try.infoNum
  rw [ivals_app]
  rcases hs with ⟨rfl, rfl, hnil⟩ | ⟨ad, c, rfl, hl, hc⟩
  · rw [hnil, List.append_nil]
    exact ⟨v, w, run_append_owned_none (P := Try.prog) (w := w) W.heap.size 42 ty 3 i0 1 Try.underlying42 hi v n _ h.1, h.1, h.2⟩
  · obtain ⟨v', w', hr, h2, h3, -⟩ := run_append_own (P := Try.prog) w W.heap.size 42 ty 3 i0 (.int .i64 0) 1 8 Try.underlying42 hi hz0 hz1 hz2 rfl (by decide) v n _ h.1 ad m c (ivals ys) hl hc (ivals_one ys) (by unfold maxLen; omega) (by omega) h.2.size
    exact ⟨v', w', hr, h2, h.2.grown h3 h.2.size fun k hk => (World.ownsRow.lt h.1 k hk).1⟩
/-- .. where something is there behind it. -/
def IntsUp (W : World) (m : Nat) (zs : List Int) (b n cap : Nat) (w' : World) : Prop := n = m ∧ Up W 3 1 (.slice (some ⟨b, 0, none⟩) n cap) n (ivals zs) w'
theorem ints_ex {W w : World} {ty : TypeId} {v sv : Value} {n m : Nat} {xs ys : List Int} (h : Up W 3 1 v n (ivals xs) w) (hs : Src w sv m 1 (ivals ys)) (h0 : 0 < n + m) (hn : n + m ≤ 17592186044416) :
    ∃ b n' cap w', (Builtin.append_ #[42, 42] ty #[v, sv]).run Try.prog w = .ok (.slice (some ⟨b, 0, none⟩) n' cap) w' ∧ IntsUp W (n + m) (xs ++ ys) b n' cap w' := by
  obtain ⟨v', w', hr, hu⟩ := ints_app (ty := ty) h hs hn
  obtain ⟨b, cap, rfl⟩ := append_form hu.1 h0
  exact ⟨b, _, cap, w', hr, rfl, hu⟩
theorem ints_read {W w : World} {v : Value} {n : Nat} {xs : List Int} (h : Up W 3 1 v n (ivals xs) w) : IntsR xs v w := by
  obtain ⟨a, cap, hv, h1, h2, h3⟩ := row_form h.1
  have hl : xs.length = n := by
    have := h.1.1
    simpa [ivals] using this
  refine ⟨a, cap, by rw [hl]; exact hv, by omega, h2, fun j x hx => ?_⟩
  obtain ⟨g, ha, hg, hc⟩ := h3 j (.int .i64 x) (by unfold ivals; rw [List.getElem?_map, hx]; rfl)
  exact ⟨g, 0, ha, hg, by rw [Nat.zero_add]; exact hc⟩

def FlatPost (W : World) (ys : List Int) (e : Ending) (w' : World) : Prop := ∃ a n cap, e = .returned (.slice a n cap) ∧ n = ys.length ∧ Up W 3 1 (.slice a n cap) n (ivals ys) w'

end Go.Proofs.Ytobplffailbkbaa

/-
  Where arguments are cut: the project's cuts, walked.
-/
namespace Go.Proofs.Ytobplffailbkbaa
open Go.RowKit

def nvals (M : List Nat) : List Int := M.map fun (x : Nat) => (x : Int)
def CutPost (W : World) (R : Option (List Nat)) (e : Ending) (w' : World) : Prop :=
  match R with
  | none => e = .returned (.tuple #[.slice none 0 0, .bool false]) ∧ Below W.heap.size W w'
  | some M => ∃ a n c, e = .returned (.tuple #[.slice a n c, .bool true]) ∧ n = M.length ∧ IntsR (nvals M) (.slice a n c) w' ∧ Below W.heap.size W w'

/-- As far as it is cut. -/
def CuS (W : World) (T : List Xt) (d i : Nat) (am : Option Addr) (nm cm : Nat) (w : World) : Prop :=
  ∃ M, Up W 3 1 (.slice am nm cm) nm (ivals (nvals M)) w ∧ cutsL T = cutL d (T.drop i) i M ∧ nm ≤ i
theorem CuS.over {W : World} {T : List Xt} {d i : Nat} {am : Option Addr} {nm cm : Nat} {w w' : World} (h : CuS W T d i am nm cm w) (b : Below w.heap.size w w') : CuS W T d i am nm cm w' := by
  obtain ⟨M, h1, h2⟩ := h
  exact ⟨M, Up.over h1 b, h2⟩
theorem nvals_snoc (M : List Nat) (i : Nat) : nvals (M ++ [i]) = nvals M ++ [(i : Int)] := by simp [nvals]
def cutD (d : Nat) (t : Xt) : Nat := if isX t oB then d + 1 else if isX t cB then d - 1 else d
theorem drop_at {T : List Xt} {i : Nat} {t : Xt} (ht : T[i]? = some t) : T.drop i = t :: T.drop (i + 1) := by
  obtain ⟨hl, rfl⟩ := List.getElem?_eq_some_iff.1 ht
  rw [List.drop_eq_getElem_cons hl]
/-- A place more. -/
theorem CuS.mark {W : World} {T : List Xt} {d i : Nat} {am : Option Addr} {nm cm : Nat} {w : World} {ty : TypeId} (h : CuS W T d i am nm cm w) (hi : i ≤ 400000) {sv : Value} (hs : Src w sv 1 1 [.int .i64 (i : Int)]) :
    ∃ b n' cap w', (Builtin.append_ #[42, 42] ty #[.slice am nm cm, sv]).run Try.prog w = .ok (.slice (some ⟨b, 0, none⟩) n' cap) w' ∧ (Below W.heap.size W w' ∧ ∃ M, Up W 3 1 (.slice (some ⟨b, 0, none⟩) n' cap) n' (ivals (nvals (M ++ [i]))) w' ∧ cutsL T = cutL d (T.drop i) i M ∧ n' = nm + 1 ∧ nm ≤ i) := by
  obtain ⟨M, h1, h2, h3⟩ := h
  obtain ⟨b, n', cap, w', hr, hn', hu⟩ := ints_ex (ty := ty) (ys := [(i : Int)]) h1 hs (by omega) (by omega)
  exact ⟨b, n', cap, w', hr, hu.2, M, by rw [nvals_snoc]; exact hu, h2, hn', h3⟩
theorem CuS.shut {W : World} {T : List Xt} {i b n c nm : Nat} {w : World} (h : ∃ M, Up W 3 1 (.slice (some ⟨b, 0, none⟩) n c) n (ivals (nvals (M ++ [i]))) w ∧ cutsL T = cutL 0 (T.drop i) i M ∧ n = nm + 1 ∧ nm ≤ i) {t : Xt} (ht : T[i]? = some t) (hc : isX t cB = true) : CutPost W (cutsL T) (.returned (.tuple #[.slice (some ⟨b, 0, none⟩) n c, .bool true])) w := by
  obtain ⟨M, hu, hE, -, -⟩ := h
  have ho : isX t oB = false := sign_one hc (by decide)
  have e : cutsL T = some (M ++ [i]) := by
    rw [hE, drop_at ht]
    show (if isX t oB then _ else if isX t cB then (if 0 = 0 then _ else _) else _) = _
    rw [ho, hc]
    rfl
  rw [e]
  have hr := ints_read hu
  obtain ⟨a', n', c', hv, hn, -⟩ := hr.form
  simp only [Value.slice.injEq] at hv
  obtain ⟨-, rfl, -⟩ := hv
  refine ⟨_, _, _, rfl, by rw [hn]; simp [nvals], hr, hu.2⟩
theorem CuS.comma {W : World} {T : List Xt} {i b n c nm : Nat} {w : World} (h : ∃ M, Up W 3 1 (.slice (some ⟨b, 0, none⟩) n c) n (ivals (nvals (M ++ [i]))) w ∧ cutsL T = cutL 0 (T.drop i) i M ∧ n = nm + 1 ∧ nm ≤ i) {t : Xt} (ht : T[i]? = some t) (hk : isX t kB = true) : CuS W T 0 (i + 1) (some ⟨b, 0, none⟩) n c w := by
  obtain ⟨M, hu, hE, hn, hm⟩ := h
  refine ⟨_, hu, ?_, by omega⟩
  rw [hE, drop_at ht]
  show (if isX t oB then _ else if isX t cB then _ else if decide (0 = 0) && isX t kB then _ else _) = _
  rw [sign_one hk (b := oB) (by decide), sign_one hk (b := cB) (by decide), hk]
  rfl
theorem CuS.step {W : World} {T : List Xt} {d i : Nat} {am : Option Addr} {nm cm : Nat} {w : World} (h : CuS W T d i am nm cm w) {t : Xt} (ht : T[i]? = some t) (h0 : d = 0 → isX t cB = false ∧ isX t kB = false) : CuS W T (cutD d t) (i + 1) am nm cm w := by
  obtain ⟨M, hu, hE, hm⟩ := h
  refine ⟨M, hu, ?_, by omega⟩
  rw [hE, drop_at ht]
  show (if isX t oB then _ else if isX t cB then (if d = 0 then _ else _) else if decide (d = 0) && isX t kB then _ else _) = _
  unfold cutD
  cases ho : isX t oB with
  | true => rfl
  | false =>
    cases hc : isX t cB with
    | true =>
      have hd : d ≠ 0 := fun e => by rw [(h0 e).1] at hc; cases hc
      rw [if_neg (by simp), if_pos rfl, if_neg hd]
      rfl
    | false =>
      have e2 : (decide (d = 0) && isX t kB) = false := by
        by_cases e : d = 0
        · rw [(h0 e).2, Bool.and_false]
        · rw [decide_eq_false e]; rfl
      rw [e2]
      rfl

def CuRel (w : World) (T : List Xt) (t4 t5 t6 : Value) (wr : World) : Prop :=
  ∃ (d i : Nat) (am : Option Addr) (nm cm : Nat), t4 = .slice am nm cm ∧ t5 = .int .i64 ((d : Int) + 1) ∧ t6 = .int .i64 (i : Int) ∧ 1 ≤ i ∧ i ≤ T.length ∧ d ≤ i ∧ CuS w T d i am nm cm wr
theorem curel_mk {w : World} {T : List Xt} {a5 a6 : Value} {d i : Nat} {am : Option Addr} {nm cm : Nat} {wr : World} (h5 : a5 = .int .i64 ((d : Int) + 1)) (h6 : a6 = .int .i64 (i : Int)) (h1 : 1 ≤ i) (h2 : i ≤ T.length) (h3 : d ≤ i) (h : CuS w T d i am nm cm wr) : CuRel w T (.slice am nm cm) a5 a6 wr :=
  ⟨d, i, am, nm, cm, rfl, h5, h6, h1, h2, h3, h⟩
theorem CuS.bel {W : World} {T : List Xt} {d i : Nat} {am : Option Addr} {nm cm : Nat} {w : World} (h : CuS W T d i am nm cm w) : Below W.heap.size W w := by
  obtain ⟨M, h1, -⟩ := h
  exact h1.2
theorem cus_start {W : World} {t : Xt} {r : List Xt} (h : isX t oB = true) {X : World} (hb : Below W.heap.size W X) : CuS W (t :: r) 0 1 (some ⟨X.heap.size, 0, none⟩) 1 1 (X.alloc (.cells #[.int .i64 0] 3)) := by
  refine ⟨[0], ⟨⟨rfl, .inr ⟨X.heap.size, 1, #[.int .i64 0], rfl, hb.size, heap_alloc_new _ _, Nat.le_refl _, by unfold maxLen; omega, rfl, rfl⟩⟩, hb.alloc hb.size _⟩, ?_, Nat.le_refl _⟩
  show (if isX t oB then _ else _) = _
  rw [h]
  rfl

end Go.Proofs.Ytobplffailbkbaa

/-
  The document's Collect, walked.
-/
namespace Go.Proofs.Ytobplffailbkbaa
open Go.RowKit

def RcRel (w : World) (T : List Xt) (t6 t7 t8 t9 t10 : Value) (wr : World) : Prop :=
  ∃ (d i : Nat) (P : List (Xt × Value)) (al : Option Addr) (nl cl : Nat) (ac : Option Addr) (nc cc : Nat) (bn : Option Addr) (nn cn : Nat), t6 = .int .i64 (d : Int) ∧ t7 = .slice al nl cl ∧ t8 = .slice bn nn cn ∧ t9 = .slice ac nc cc ∧ t10 = .int .i64 (i : Int) ∧ 1 ≤ i ∧ i ≤ T.length ∧ d ≤ i ∧ RcS w T d i P al nl cl ac nc cc bn nn cn wr
theorem rcrel_mk {w : World} {T : List Xt} {a6 a10 : Value} {d i : Nat} {P : List (Xt × Value)} {al : Option Addr} {nl cl : Nat} {ac : Option Addr} {nc cc : Nat} {bn : Option Addr} {nn cn : Nat} {wr : World} (h6 : a6 = .int .i64 (d : Int)) (h10 : a10 = .int .i64 (i : Int)) (h1 : 1 ≤ i) (h2 : i ≤ T.length) (h3 : d ≤ i) (h : RcS w T d i P al nl cl ac nc cc bn nn cn wr) : RcRel w T a6 (.slice al nl cl) (.slice bn nn cn) (.slice ac nc cc) a10 wr :=
  ⟨d, i, P, al, nl, cl, ac, nc, cc, bn, nn, cn, h6, rfl, rfl, rfl, h10, h1, h2, h3, h⟩

/-- A token as it is read in the round. -/
def AtR (wr : World) (t : Xt) (sv : Value) (g o : Nat) (X : World) : Prop := TokX t sv g o X ∧ g < X.heap.size ∧ Below wr.heap.size wr X
theorem AtR.next {wr : World} {t : Xt} {sv : Value} {g o : Nat} {X Y : World} (h : AtR wr t sv g o X) (b : Below X.heap.size X Y) : AtR wr t sv g o Y := ⟨h.1.next b h.2.1, Nat.lt_of_lt_of_le h.2.1 b.size, below_up h.2.2 b⟩

end Go.Proofs.Ytobplffailbkbaa

/-
  cuts, walked.
-/
namespace Go.Proofs.Ytobplffailbkbaa
open Go.RowKit

end Go.Proofs.Ytobplffailbkbaa
