/-
  Texts of the proof, put together: McL, DkKind, DkSame.
-/
import Derived.Test.YtmghocfkekggaaaG14
import Derived.StillTailTactics

/-
  Macros, over lists: what a definition is read as, and when two are the same.
-/
namespace Go.Proofs.Ytmghocfkekggaaa

/-- A macro. -/
structure Xm where
  n : ByteArray
  fn : Bool
  va : Bool
  ps : List ByteArray
  bd : List Xt
  g : ByteArray
  f : Int
  t : Int

abbrev vaB : ByteArray := ⟨#[95, 95, 86, 65, 95, 65, 82, 71, 83, 95, 95]⟩
abbrev dfB : ByteArray := ⟨#[100, 101, 102, 105, 110, 101, 100]⟩
abbrev flB : ByteArray := ⟨#[95, 95, 70, 73, 76, 69, 95, 95]⟩
abbrev lnB : ByteArray := ⟨#[95, 95, 76, 73, 78, 69, 95, 95]⟩
abbrev oB : ByteArray := ⟨#[40]⟩
abbrev cB : ByteArray := ⟨#[41]⟩
abbrev kB : ByteArray := ⟨#[44]⟩
abbrev eB : ByteArray := ⟨#[46, 46, 46]⟩

/-- A name that no macro may have. -/
def resB (x : ByteArray) : Bool := decide (x = dfB) || decide (x = flB) || decide (x = lnB) || decide (x = vaB)

def memB (x : ByteArray) (ps : List ByteArray) : Bool := ps.any fun y => decide (y = x)
theorem memB_iff {x : ByteArray} {ps : List ByteArray} : memB x ps = true ↔ x ∈ ps := by
  unfold memB
  simp
theorem memB_not {x : ByteArray} {ps : List ByteArray} (h : memB x ps = false) : x ∉ ps := fun hx => by
  rw [memB_iff.2 hx] at h
  cases h

/-- May a token be a parameter's name? -/
def parB (ps : List ByteArray) (t : Xt) : Bool := decide (t.k = 1) && !decide (t.x = vaB) && !memB t.x ps

/-- A sign, if it is the next one. -/
def takeL (s : ByteArray) : List Xt → Option (List Xt)
  | [] => none
  | t :: r => if isX t s then some r else none

/-- A parameter that has a name. -/
def parL (ps : List ByteArray) : List Xt → Option (ByteArray × List Xt)
  | [] => none
  | t :: r => if parB ps t then some (t.x, r) else none

/-- The row of parameters, from a parameter on. -/
def rowL (ps : List ByteArray) : List Xt → Option (Bool × List ByteArray × List Xt)
  | [] => none
  | [_] => none
  | t :: u :: r =>
    if isX t eB then (if isX u cB then some (true, ps ++ [vaB], r) else none)
    else if parB ps t then (if isX u cB then some (false, ps ++ [t.x], r) else if isX u kB then rowL (ps ++ [t.x]) r else none)
    else none

/-- Func, Variadic, Params, and what is left. -/
def headL (T : List Xt) : Option (Bool × Bool × List ByteArray × List Xt) :=
  match T with
  | [] => some (false, false, [], [])
  | t :: r =>
    if t.sp = false ∧ isX t oB = true then
      (match r with
      | [] => none
      | u :: q => if isX u cB then some (true, false, [], q) else (rowL [] r).map fun x => (true, x.1, x.2.1, x.2.2))
    else some (false, false, [], t :: r)

/-- What is left, as a body. -/
def bareL : List Xt → List Xt
  | [] => []
  | t :: r => { t with sp := false } :: r

/-- Does a parameter stand there? -/
def isPar (ps : List ByteArray) (T : List Xt) (i : Nat) : Bool :=
  match T[i]? with
  | none => false
  | some t => decide (t.k = 1) && memB t.x ps

/-- May a token of a body not stand there? -/
def illX (fn va : Bool) (ps : List ByteArray) (T : List Xt) (i : Nat) (t : Xt) : Bool :=
  (pasteX t && (decide (i = 0) || decide (i + 1 = T.length))) || (hashX t && fn && !isPar ps T (i + 1)) || (decide (t.k = 1) && decide (t.x = vaB) && !va)

/-- The first one that may not, from a place on. -/
def misL (fn va : Bool) (ps : List ByteArray) (T : List Xt) : Nat → Nat → Option Nat
  | 0, _ => none
  | n + 1, i => match T[i]? with
    | none => none
    | some t => if illX fn va ps T i t then some i else misL fn va ps T n (i + 1)

/-- What is told. -/
structure Ill where
  c : Int
  g : ByteArray
  f : Int
  t : Int

def illOf (c : Int) (t : Xt) : Ill := ⟨c, t.g, t.f, t.t⟩

/-- A definition. -/
def parseL (T : List Xt) : Xm ⊕ Ill :=
  match T with
  | [] => .inr ⟨4, ⟨#[]⟩, 0, 0⟩
  | t :: r =>
    if t.k ≠ 1 then .inr (illOf 4 t)
    else if resB t.x then .inr (illOf 5 t)
    else match headL r with
      | none => .inr (illOf 5 t)
      | some (fn, va, ps, q) => match misL fn va ps (bareL q) (bareL q).length 0 with
        | some i => match (bareL q)[i]? with
          | some u => .inr (illOf 5 u)
          | none => .inr (illOf 5 t)
        | none => .inl ⟨t.x, fn, va, ps, bareL q, t.g, t.f, t.t⟩

theorem takeL_yes {t : Xt} {s : ByteArray} {r : List Xt} (h : isX t s = true) : takeL s (t :: r) = some r := by
  show (if isX t s = true then some r else none) = _
  rw [h]
  rfl
theorem takeL_no {t : Xt} {s : ByteArray} {r : List Xt} (h : isX t s = false) : takeL s (t :: r) = none := by
  show (if isX t s = true then some r else none) = _
  rw [h]
  rfl

/-- The row, by what is taken. -/
theorem rowL_take (ps : List ByteArray) (R : List Xt) : rowL ps R = match takeL eB R with
    | some R1 => (match takeL cB R1 with
      | some q => some (true, ps ++ [vaB], q)
      | none => none)
    | none => match R with
      | [] => none
      | t :: r => if parB ps t then (match takeL cB r with
        | some q => some (false, ps ++ [t.x], q)
        | none => match takeL kB r with
          | some r' => rowL (ps ++ [t.x]) r'
          | none => none) else none := by
  match R with
  | [] => rfl
  | [t] =>
    rw [show rowL ps [t] = none from rfl]
    cases he : isX t eB with
    | true => rw [takeL_yes he]; rfl
    | false =>
      rw [takeL_no he]
      show none = if parB ps t = true then _ else none
      split <;> rfl
  | t :: u :: r =>
    rw [show rowL ps (t :: u :: r) = (if isX t eB then (if isX u cB then some (true, ps ++ [vaB], r) else none)
      else if parB ps t then (if isX u cB then some (false, ps ++ [t.x], r) else if isX u kB then rowL (ps ++ [t.x]) r else none)
      else none) from rfl]
    cases he : isX t eB with
    | true =>
      rw [takeL_yes he, if_pos rfl]
      cases hc : isX u cB with
      | true => simp only [takeL_yes hc, if_pos]
      | false => simp only [takeL_no hc, Bool.false_eq_true, if_false]
    | false =>
      rw [takeL_no he, if_neg (by simp)]
      show _ = if parB ps t = true then _ else none
      cases hp : parB ps t with
      | false => rfl
      | true =>
        rw [if_pos rfl, if_pos rfl]
        cases hc : isX u cB with
        | true => simp only [takeL_yes hc, if_pos]
        | false =>
          simp only [takeL_no hc, Bool.false_eq_true, if_false]
          cases hk : isX u kB with
          | true => simp only [takeL_yes hk, if_pos]
          | false => simp only [takeL_no hk, Bool.false_eq_true, if_false]

theorem misL_is {fn va : Bool} {ps : List ByteArray} {T : List Xt} : ∀ (n i : Nat), i + n = T.length →
    (misL fn va ps T n i = none ∧ ∀ j t, i ≤ j → T[j]? = some t → illX fn va ps T j t = false) ∨
    (∃ j t, i ≤ j ∧ T[j]? = some t ∧ misL fn va ps T n i = some j ∧ illX fn va ps T j t = true ∧ ∀ k u, i ≤ k → k < j → T[k]? = some u → illX fn va ps T k u = false)
  | 0, i, h => .inl ⟨rfl, fun j t hj ht => by
      have h1 := (List.getElem?_eq_some_iff.1 ht).1
      exact absurd h1 (by omega)⟩
  | n + 1, i, h => by
    obtain ⟨t, ht⟩ : ∃ t, T[i]? = some t := ⟨_, List.getElem?_eq_getElem (l := T) (i := i) (by omega)⟩
    have e : misL fn va ps T (n + 1) i = if illX fn va ps T i t then some i else misL fn va ps T n (i + 1) := by
      show (match T[i]? with | none => none | some t => if illX fn va ps T i t then some i else misL fn va ps T n (i + 1)) = _
      rw [ht]
    rw [e]
    by_cases hb : illX fn va ps T i t = true
    · rw [if_pos hb]
      exact .inr ⟨i, t, Nat.le_refl _, ht, rfl, hb, fun k u h1 h2 => by omega⟩
    · rw [if_neg hb]
      have hf : ∀ k u, i ≤ k → k < i + 1 → T[k]? = some u → illX fn va ps T k u = false := fun k u h1 h2 hu => by
        obtain rfl : k = i := by omega
        rw [ht] at hu
        cases hu
        simpa using hb
      rcases misL_is (fn := fn) (va := va) (ps := ps) (T := T) n (i + 1) (by omega) with ⟨h1, h2⟩ | ⟨j, u, h1, h2, h3, h4, h5⟩
      · refine .inl ⟨h1, fun j u hj hu => ?_⟩
        rcases Nat.lt_or_ge j (i + 1) with hk | hk
        · exact hf j u hj hk hu
        · exact h2 j u hk hu
      · refine .inr ⟨j, u, by omega, h2, h3, h4, fun k v hk1 hk2 hv => ?_⟩
        rcases Nat.lt_or_ge k (i + 1) with hk | hk
        · exact hf k v hk1 hk hv
        · exact h5 k v hk hk2 hv

end Go.Proofs.Ytmghocfkekggaaa

/-
  A line's kind: the document's.
-/
namespace Go.Proofs.Ytmghocfkekggaaa
open Go.RowKit

def WordsAt (g : Nat) (w : World) : Prop := ∀ i, i < 14 → w.cell? ⟨g, i, none⟩ = some (.string (wB i))
def WordsPost (w : World) (e : Ending) (w' : World) : Prop := ∃ g, e = .returned (.slice (some ⟨g, 0, none⟩) 14 14) ∧ Below w.heap.size w w' ∧ g < w'.heap.size ∧ WordsAt g w'

theorem WordsAt.next {g : Nat} {w w' : World} (h : WordsAt g w) (b : Below w.heap.size w w') (hg : g < w.heap.size) : WordsAt g w' := fun i hi => bcell b (h i hi) hg

/-- The first token, and the second one. -/
theorem ToksX.get {T : List Xt} {a : Option Addr} {n cap : Nat} {w : World} (h : ToksX T (.slice a n cap) w) {k : Nat} {t : Xt} (ht : T[k]? = some t) :
    ∃ g o sa sn sc, a = some ⟨g, o, none⟩ ∧ g < w.heap.size ∧ sn = t.ss.length ∧ TokX t (.slice sa sn sc) g (o + k * 8) w ∧ SitsA t.ss (.slice sa sn sc) w := by
  obtain ⟨a', cap', hv, -, -, h3⟩ := h
  obtain ⟨g, o, ha, hg, sv, hc, hs⟩ := h3 k t ht
  obtain ⟨sa, sn, sc, rfl, hn, -⟩ := hs.form
  simp only [Value.slice.injEq] at hv
  exact ⟨g, o, sa, sn, sc, by rw [hv.1]; exact ha, hg, hn, hc, hs⟩
theorem ToksX.len {T : List Xt} {a : Option Addr} {n cap : Nat} {w : World} (h : ToksX T (.slice a n cap) w) : n = T.length ∧ n ≤ cap ∧ cap ≤ maxLen := by
  obtain ⟨a', cap', hv, h1, h2, -⟩ := h
  simp only [Value.slice.injEq] at hv
  obtain ⟨-, e1, e2⟩ := hv
  exact ⟨e1, by omega, by omega⟩
theorem ToksX.form {T : List Xt} {v : Value} {w : World} (h : ToksX T v w) : ∃ a n cap, v = .slice a n cap := by
  obtain ⟨a, cap, hv, -⟩ := h
  exact ⟨a, _, cap, hv⟩

theorem kind_nil : kindL [] = 0 := rfl
theorem kind_no {t : Xt} {r : List Xt} (h : hashX t = false) : kindL (t :: r) = 0 := by
  show (if hashX t = true then _ else 0) = 0
  rw [h]
  rfl
theorem kind_one {t : Xt} (h : hashX t = true) : kindL [t] = 1 := by
  show (if hashX t = true then _ else 0) = 1
  rw [h]
  rfl
theorem kind_two {t s : Xt} {r : List Xt} (h : hashX t = true) : kindL (t :: s :: r) = if s.k = 1 then wKind s.x else 14 := by
  show (if hashX t = true then _ else 0) = _
  rw [h]
  rfl

end Go.Proofs.Ytmghocfkekggaaa

/-
  The document's SameToken and SameTokens, of what is the same, any.
-/
namespace Go.Proofs.Ytmghocfkekggaaa
open Go.RowKit

/-- Two boxes of eight cells, one behind the other: their last cells. -/
theorem two_boxes (w : World) (c0 c1 c2 c3 c4 c5 c6 c7 e7 : Value) (T : TypeId) :
    Below w.heap.size w ((w.alloc (.cells #[c0, c1, c2, c3, c4, c5, c6, c7] T)).alloc (.cells #[c0, c1, c2, c3, c4, c5, c6, e7] T)) ∧
    ((w.alloc (.cells #[c0, c1, c2, c3, c4, c5, c6, c7] T)).alloc (.cells #[c0, c1, c2, c3, c4, c5, c6, e7] T)).cell? ⟨w.heap.size, 7, none⟩ = some c7 ∧
    ((w.alloc (.cells #[c0, c1, c2, c3, c4, c5, c6, c7] T)).alloc (.cells #[c0, c1, c2, c3, c4, c5, c6, e7] T)).cell? ⟨w.heap.size + 1, 7, none⟩ = some e7 ∧
    ((w.alloc (.cells #[c0, c1, c2, c3, c4, c5, c6, c7] T)).alloc (.cells #[c0, c1, c2, c3, c4, c5, c6, e7] T)).heap.size = w.heap.size + 2 := by
  refine ⟨((Below.refl _ _).alloc (Nat.le_refl _) _).alloc (by simp) _, ?_, ?_, by simp⟩
  · rw [Lib.cell_of_heap (heap_one w _ _)]
    rfl
  · have h := heap_alloc_new (w.alloc (.cells #[c0, c1, c2, c3, c4, c5, c6, c7] T)) (.cells #[c0, c1, c2, c3, c4, c5, c6, e7] T)
    rw [show (w.alloc (.cells #[c0, c1, c2, c3, c4, c5, c6, c7] T)).heap.size = w.heap.size + 1 from by simp] at h
    rw [Lib.cell_of_heap h]
    rfl

theorem SitsA.len {S : List Xs} {a : Option Addr} {n cap : Nat} {w : World} (h : SitsA S (.slice a n cap) w) : n = S.length ∧ n ≤ cap ∧ cap ≤ maxLen := by
  obtain ⟨a', cap', hv, h1, h2, -⟩ := h
  simp only [Value.slice.injEq] at hv
  obtain ⟨-, e1, e2⟩ := hv
  exact ⟨e1, by omega, by omega⟩
theorem SitsA.get {S : List Xs} {a : Option Addr} {n cap : Nat} {w : World} (h : SitsA S (.slice a n cap) w) {k : Nat} {s : Xs} (hs : S[k]? = some s) : ∃ g o, a = some ⟨g, o, none⟩ ∧ g < w.heap.size ∧ SitA s g (o + k * 5) w := by
  obtain ⟨a', cap', hv, -, -, h3⟩ := h
  simp only [Value.slice.injEq] at hv
  obtain ⟨g, o, ha, hg, hc⟩ := h3 k s hs
  exact ⟨g, o, by rw [hv.1]; exact ha, hg, hc⟩

set_option maxRecDepth 100000 in
set_option maxHeartbeats 3200000 in
theorem sameTok_any (t : Xt) {a a' : Option Addr} {n cap n' cap' : Nat} {w : World} (h : SitsA t.ss (.slice a n cap) w) (h' : SitsA t.ss (.slice a' n' cap') w) :
    Calls Try.prog 66 #[.agg #[.int .i64 t.k, .string t.x, .bool t.sp, .string t.g, .int .i64 t.f, .int .i64 t.t, .bool t.d, .slice a n cap], .agg #[.int .i64 t.k, .string t.x, .bool t.sp, .string t.g, .int .i64 t.f, .int .i64 t.t, .bool t.d, .slice a' n' cap']] w (TruePost w) := by
  obtain ⟨hn, hc1, hc2⟩ := h.len
  obtain ⟨hn', hc1', hc2'⟩ := h'.len
  obtain rfl : n = n' := hn.trans hn'.symm
  unfold maxLen at hc2 hc2'
  have HX := Lib.hid h
  have HX' := Lib.hid h'
  have HN := Lib.hid hn
  clear h h' hn hn'
  go_enter Try.func66, Try.ntmps66
  go_wp2
  obtain ⟨hB, k7, m7, hsz⟩ := two_boxes w (.int .i64 t.k) (.string t.x) (.bool t.sp) (.string t.g) (.int .i64 t.f) (.int .i64 t.t) (.bool t.d) (.slice a n cap) (.slice a' n cap') 56
  obtain ⟨o1, ho1⟩ : ∃ o : Obj, Obj.cells #[.int .i64 t.k, .string t.x, .bool t.sp, .string t.g, .int .i64 t.f, .int .i64 t.t, .bool t.d, .slice a n cap] 56 = o := ⟨_, rfl⟩
  obtain ⟨o2, ho2⟩ : ∃ o : Obj, Obj.cells #[.int .i64 t.k, .string t.x, .bool t.sp, .string t.g, .int .i64 t.f, .int .i64 t.t, .bool t.d, .slice a' n cap'] 56 = o := ⟨_, rfl⟩
  rw [ho1, ho2] at hB k7 m7 hsz ⊢
  obtain ⟨w2, hw2⟩ : ∃ w2, (w.alloc o1).alloc o2 = w2 := ⟨_, rfl⟩
  rw [hw2] at hB k7 m7 hsz ⊢
  have HB := Lib.hid hB
  have HK7 := Lib.hid k7
  have HM7 := Lib.hid m7
  have hz1 : w.heap.size < w2.heap.size := by omega
  have hz2 : w.heap.size + 1 < w2.heap.size := by omega
  clear hB hw2 ho1 ho2 k7 m7 hsz
  go_loopw [5] (fun i wr => ∃ k : Nat, i = .int .i64 (k : Int) ∧ k ≤ n ∧ Below w2.heap.size w2 wr) (fun i _ => n - (intOf i).toNat)
  case atStart => exact ⟨0, rfl, Nat.zero_le _, Below.refl _ _⟩
  case round =>
    obtain ⟨k, rfl, hk, hb⟩ := hrel
    have k7 := bcell hb HK7.out hz1
    have m7 := bcell hb HM7.out hz2
    have HBW : Hid (Below w.heap.size w wr) := Lib.hid (HB.out.trans (hb.mono HB.out.size))
    have HB2 := Lib.hid hb
    clear hb
    by_cases hlt : k < n
    · obtain ⟨s, hs⟩ : ∃ s, t.ss[k]? = some s := ⟨_, List.getElem?_eq_getElem (by rw [← HN.out]; exact hlt)⟩
      obtain ⟨g, o, rfl, hg, hsa⟩ := HX.out.get hs
      obtain ⟨g', o', rfl, hg', hsb⟩ := HX'.out.get hs
      obtain ⟨e0, e1, e2, e3, e4⟩ := hsa.next HBW.out hg
      obtain ⟨f0, f1, f2, f3, f4⟩ := hsb.next HBW.out hg'
      have hkI : (k : Int) < (n : Int) := by omega
      have hk0 : (0 : Int) ≤ (k : Int) := by omega
      clear hs hsa hsb
      go_wp2
      go_quiet (fail)
      go_wp2
      go_roundw
      case rel => exact ⟨k + 1, by go_num, hlt, HB2.out.trans ((Below.of_drews _ _).mono HB2.out.size)⟩
      case measure => simp [intOf]; omega
    · have hkI : ¬ (k : Int) < (n : Int) := by omega
      go_wp2
      go_ret
      exact ⟨rfl, HBW.out⟩

set_option maxRecDepth 100000 in
set_option maxHeartbeats 3200000 in
theorem sameToks_any {T : List Xt} {v v' : Value} {w : World} (h : ToksX T v w) (h' : ToksX T v' w) : Calls Try.prog 49 #[v, v'] w (TruePost w) := by
  obtain ⟨a, n, cap, rfl⟩ := h.form
  obtain ⟨a', n', cap', rfl⟩ := h'.form
  obtain ⟨hn, hc1, hc2⟩ := h.len
  obtain ⟨hn', hc1', hc2'⟩ := h'.len
  obtain rfl : n = n' := hn.trans hn'.symm
  unfold maxLen at hc2 hc2'
  have HX := Lib.hid h
  have HX' := Lib.hid h'
  have HN := Lib.hid hn
  clear h h' hn hn'
  go_enter Try.func49, Try.ntmps49
  go_wp2
  go_loopw [5] (fun i wr => ∃ k : Nat, i = .int .i64 (k : Int) ∧ k ≤ n ∧ Below w.heap.size w wr) (fun i _ => n - (intOf i).toNat)
  case atStart => exact ⟨0, rfl, Nat.zero_le _, Below.refl _ _⟩
  case round =>
    obtain ⟨k, rfl, hk, hb⟩ := hrel
    by_cases hlt : k < n
    · obtain ⟨t, ht⟩ : ∃ t, T[k]? = some t := ⟨_, List.getElem?_eq_getElem (by rw [← HN.out]; exact hlt)⟩
      obtain ⟨g, o, sa, sn, sc, rfl, hg, -, hta, hsa⟩ := HX.out.get ht
      obtain ⟨g', o', sa', sn', sc', rfl, hg', -, htb, hsb⟩ := HX'.out.get ht
      obtain ⟨e0, e1, e2, e3, e4, e5, e6, e7⟩ := hta.next hb hg
      obtain ⟨f0, f1, f2, f3, f4, f5, f6, f7⟩ := htb.next hb hg'
      have hkI : (k : Int) < (n : Int) := by omega
      have hk0 : (0 : Int) ≤ (k : Int) := by omega
      have HB := Lib.hid hb
      have HS : Hid (∀ X : World, Below w.heap.size w X → Calls Try.prog 66 #[.agg #[.int .i64 t.k, .string t.x, .bool t.sp, .string t.g, .int .i64 t.f, .int .i64 t.t, .bool t.d, .slice sa sn sc], .agg #[.int .i64 t.k, .string t.x, .bool t.sp, .string t.g, .int .i64 t.f, .int .i64 t.t, .bool t.d, .slice sa' sn' sc']] X (TruePost X)) := Lib.hid (fun X hX => sameTok_any t (hsa.over hX) (hsb.over hX))
      clear hb ht hta htb hsa hsb
      go_wp2
      go_still_tail 8, (by kernel_rfl)
      change wpList _ _ _ _ _ wr.drew
      have HB2 : Hid (Below w.heap.size w wr.drew) := Lib.hid HB.out.drew
      obtain ⟨w2, hw2⟩ : ∃ w2, wr.drew = w2 := ⟨_, rfl⟩
      rw [hw2] at HB2 ⊢
      clear hw2 e0 e1 e2 e3 e4 e5 e6 e7 f0 f1 f2 f3 f4 f5 f6 f7
      go_wp2_with (go_at_call 66; (with_reducible refine (HS.out _ HB2.out).mono ?_); rintro e w3 ⟨rfl, hb3⟩; have HB3 := Lib.hid hb3; clear hb3)
      go_roundw
      case rel => exact ⟨k + 1, by go_num, hlt, HB2.out.trans (HB3.out.mono HB2.out.size)⟩
      case measure => simp [intOf]; omega
    · have hkI : ¬ (k : Int) < (n : Int) := by omega
      go_wp2
      go_ret
      exact ⟨rfl, hb⟩

end Go.Proofs.Ytmghocfkekggaaa
