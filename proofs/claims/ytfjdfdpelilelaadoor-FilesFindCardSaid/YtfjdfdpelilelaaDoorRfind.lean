/-
  A list that rises; Create and Find of the document's table.
-/
import Derived.Test.YtfjdfdpelilelaaDoorRput
import Derived.Test.YtfjdfdpelilelaaDoorFAwake
import Derived.Test.YtfjdfdpelilelaaDoorRefValid
import Derived.Sort.Walk0
import Derived.Test.YtfjdfdpelilelaaDoorFFind
import Derived.Test.YtfjdfdpelilelaaDoorRefJoin
import Derived.Test.YtfjdfdpelilelaaDoorRefDir
namespace Go.Proofs.YtfjdfdpelilelaaDoor
open Go.RowKit

theorem bl_irrefl (x : List UInt8) : Op.bytesLess x x = false := by
  rw [bytesLess_eq]; simp
theorem bl_trans {x y z : List UInt8} (h : Op.bytesLess x y = true) (k : Op.bytesLess y z = true) : Op.bytesLess x z = true := by
  rw [bytesLess_eq, decide_eq_true_eq] at *
  exact List.lt_trans h k
theorem bl_tri {x y : List UInt8} (h : Op.bytesLess x y = false) (k : Op.bytesLess y x = false) : x = y := by
  rw [bytesLess_eq, decide_eq_false_iff_not] at *
  exact List.le_antisymm (List.not_lt.1 k) (List.not_lt.1 h)

def Rise (fs : FL) : Prop := fs.Pairwise fun a b => Op.bytesLess a.1 b.1 = true

theorem at_less {a : List UInt8 × List UInt8} {r : FL} {l : List UInt8} (h : Op.bytesLess a.1 l = true) : atN (a :: r) l = atN r l + 1 ∧ atB (a :: r) l = atB r l := by
  have e : atN (a :: r) l = atN r l + 1 := by
    unfold atN
    rw [List.takeWhile_cons, show ltP l a = true from h]
    rfl
  refine ⟨e, ?_⟩
  unfold atB
  rw [e]
  simp

theorem at_here {a : List UInt8 × List UInt8} {r : FL} {l : List UInt8} (h : Op.bytesLess a.1 l = false) : atN (a :: r) l = 0 ∧ atB (a :: r) l = (a.1 == l) := by
  have e : atN (a :: r) l = 0 := by
    unfold atN
    rw [List.takeWhile_cons, show ltP l a = false from h]
    rfl
  refine ⟨e, ?_⟩
  unfold atB
  rw [e]
  rfl

theorem atB_mem : ∀ {fs : FL} (_ : Rise fs) (l : List UInt8), atB fs l = true ↔ l ∈ fs.map (·.1)
  | [], _, l => by simp [atB, atN]
  | a :: r, h, l => by
    obtain ⟨h1, h2⟩ := List.pairwise_cons.1 h
    cases hb : Op.bytesLess a.1 l with
    | true =>
      rw [(at_less hb).2, atB_mem h2 l, List.map_cons, List.mem_cons]
      refine ⟨.inr, fun x => x.resolve_left fun e => ?_⟩
      rw [e, bl_irrefl] at hb
      cases hb
    | false =>
      rw [(at_here hb).2, beq_iff_eq, List.map_cons, List.mem_cons]
      refine ⟨fun e => .inl e.symm, fun x => ?_⟩
      rcases x with x | x
      · exact x.symm
      · obtain ⟨f, hf, rfl⟩ := List.mem_map.1 x
        rw [h1 f hf] at hb
        cases hb

def putL (fs : FL) (l x : List UInt8) : FL := fs.take (atN fs l) ++ (l, x) :: fs.drop (atN fs l)

theorem putL_mem (fs : FL) (l x k : List UInt8) : k ∈ (putL fs l x).map (·.1) ↔ k = l ∨ k ∈ fs.map (·.1) := by
  have e : fs.map (·.1) = (fs.take (atN fs l)).map (·.1) ++ (fs.drop (atN fs l)).map (·.1) := by rw [← List.map_append, List.take_append_drop]
  rw [e]
  unfold putL
  simp only [List.map_append, List.map_cons, List.mem_append, List.mem_cons]
  exact ⟨fun h => h.elim (fun h => .inr (.inl h)) (fun h => h.elim .inl (fun h => .inr (.inr h))), fun h => h.elim (fun h => .inr (.inl h)) (fun h => h.elim .inl (fun h => .inr (.inr h)))⟩

theorem putL_rise : ∀ {fs : FL} (_ : Rise fs) (l x : List UInt8) (_ : atB fs l = false), Rise (putL fs l x)
  | [], _, l, x, _ => by simp [putL, Rise, atN]
  | a :: r, h, l, x, hb => by
    obtain ⟨h1, h2⟩ := List.pairwise_cons.1 h
    cases hc : Op.bytesLess a.1 l with
    | true =>
      rw [(at_less hc).2] at hb
      have ih := putL_rise h2 l x hb
      have e : putL (a :: r) l x = a :: putL r l x := by
        unfold putL
        rw [(at_less hc).1]
        rfl
      rw [e]
      refine List.pairwise_cons.2 ⟨fun f hf => ?_, ih⟩
      have hm : f.1 ∈ (putL r l x).map (·.1) := List.mem_map.2 ⟨f, hf, rfl⟩
      rcases (putL_mem r l x f.1).1 hm with e | e
      · rw [e]; exact hc
      · obtain ⟨g, hg, he⟩ := List.mem_map.1 e
        rw [← he]
        exact h1 g hg
    | false =>
      rw [(at_here hc).2, beq_eq_false_iff_ne] at hb
      have e : putL (a :: r) l x = (l, x) :: a :: r := by
        unfold putL
        rw [(at_here hc).1]
        rfl
      have hl : Op.bytesLess l a.1 = true := by
        cases hd : Op.bytesLess l a.1 with
        | true => rfl
        | false => exact absurd (bl_tri hc hd) hb
      rw [e]
      refine List.pairwise_cons.2 ⟨fun f hf => ?_, h⟩
      rcases List.mem_cons.1 hf with rfl | hf
      · exact hl
      · exact bl_trans hl (h1 f hf)

/-- The two tables agree. -/
structure Agree (t : Tab) (c : Nat) (fs : FL) (ns : List (List UInt8)) (ts : List Int) (k : Nat) : Prop where
  rise : Rise fs
  mem : ∀ l, (t.file l).isSome = true ↔ l ∈ fs.map (·.1)
  sub : ∀ l ∈ ns, l ∈ fs.map (·.1)
  len : c ≤ k ∧ fs.length ≤ k ∧ ns.length ≤ k ∧ ts.length ≤ k
  few : t.ents.length ≤ k
  ver : ∀ l, t.ver l ≤ k

theorem Agree.more {t : Tab} {c : Nat} {fs : FL} {ns : List (List UInt8)} {ts : List Int} {k : Nat} (h : Agree t c fs ns ts k) : Agree t c fs ns ts (k + 1) :=
  ⟨h.rise, h.mem, h.sub, ⟨by have := h.len; omega, by have := h.len; omega, by have := h.len; omega, by have := h.len; omega⟩, by have := h.few; omega, fun l => by have := h.ver l; omega⟩

theorem Agree.at {t : Tab} {c : Nat} {fs : FL} {ns : List (List UInt8)} {ts : List Int} {k : Nat} (h : Agree t c fs ns ts k) (l : List UInt8) : atB fs l = (t.file l).isSome := by
  have h1 := atB_mem h.rise l
  have h2 := h.mem l
  cases ha : atB fs l <;> cases hb : (t.file l).isSome <;> simp_all

theorem Agree.put {t t' : Tab} {c : Nat} {fs : FL} {ns : List (List UInt8)} {ts : List Int} {k : Nat} (h : Agree t c fs ns ts k) {l x : List UInt8} (hf : t.file l = none) {b : Nat} {o : Option T} (d : Did t t' l (some (b, o))) :
    Agree t' (c + 1) (putL fs l x) (ns ++ [l]) (ts ++ [1]) (k + 1) := by
  have hb : atB fs l = false := by rw [h.at, hf]; rfl
  have hlen : (putL fs l x).length = fs.length + 1 := by
    have := atN_le fs l
    unfold putL
    simp only [List.length_append, List.length_take, List.length_cons, List.length_drop]
    omega
  obtain ⟨l1, l2, l3, l4⟩ := h.len
  refine ⟨putL_rise h.rise l x hb, fun j => ?_, fun j hj => ?_, ⟨by omega, by omega, by simp; omega, by simp; omega⟩, by have := d.len; have := h.few; omega, fun j => ?_⟩
  · rw [putL_mem]
    by_cases e : j = l
    · subst e
      rw [d.self.1]
      simp
    · rw [(d.other e).1, h.mem]
      exact ⟨.inr, fun z => z.resolve_left e⟩
  · rw [putL_mem]
    rcases List.mem_append.1 hj with hj | hj
    · exact .inr (h.sub j hj)
    · exact .inl (List.mem_singleton.1 hj)
  · by_cases e : j = l
    · subst e
      rw [d.self.2]
      have := h.ver j
      omega
    · rw [(d.other e).2]
      have := h.ver j
      omega

theorem agree_start (xs : List (List UInt8)) : Agree (tab0 xs) 0 [] [] [] 0 :=
  ⟨List.Pairwise.nil, fun l => by simp [tab0, Tab.file, Tab.ent], fun l hl => (by cases hl), ⟨Nat.le_refl _, Nat.le_refl _, Nat.le_refl _, Nat.le_refl _⟩, Nat.le_refl _, fun l => Nat.le_refl _⟩

set_option maxHeartbeats 1600000 in
theorem rCreate_arg {B : Nat} {w : World} {m : Nat} {dv lv nv tv : Value} {fs : FL} {ns : List (List UInt8)} {ts : List Int} (h : RT B w m dv lv nv tv fs ns ts) (s x : ByteArray) (hv : validB s.data.toList = false) :
    Calls Tryd.prog 12 #[.pointer (some ⟨m, 0, none⟩), .string s, .string x] w fun e w' => e = .returned (.int .i64 1) ∧ Below w.heap.size w w' := by
  have hV := fun w1 => valid_any s w1
  rw [hv] at hV
  have HV := Lib.hid hV
  have HA := Lib.hid (rAt_any h s)
  have hnot := not_run
  clear hV h
  go_enter Tryd.func12, Tryd.ntmps12
  go_wp2_with (first
    | (go_at_call 31; (with_reducible refine HA.out.mono ?_); rintro e w1 ⟨rfl, b1⟩; have B1 := Lib.hid b1; clear b1)
    | (go_at_call 24; (with_reducible refine (HV.out w1).mono ?_); rintro e w2 ⟨rfl, b2⟩; have B2 := Lib.hid b2; clear b2))
  all_goals go_ret
  all_goals exact ⟨rfl, B1.out.trans (B2.out.mono B1.out.size)⟩

set_option maxHeartbeats 1600000 in
theorem rCreate_there {B : Nat} {w : World} {m : Nat} {dv lv nv tv : Value} {fs : FL} {ns : List (List UInt8)} {ts : List Int} (h : RT B w m dv lv nv tv fs ns ts) (s x : ByteArray) (hv : validB s.data.toList = true) (hb : atB fs s.data.toList = true) :
    Calls Tryd.prog 12 #[.pointer (some ⟨m, 0, none⟩), .string s, .string x] w fun e w' => e = .returned (.int .i64 3) ∧ Below w.heap.size w w' := by
  have hV := fun w1 => valid_any s w1
  rw [hv] at hV
  have HV := Lib.hid hV
  have hA := rAt_any h s
  rw [hb] at hA
  have HA := Lib.hid hA
  have hnot := not_run
  clear hV h hA
  go_enter Tryd.func12, Tryd.ntmps12
  go_wp2_with (first
    | (go_at_call 31; (with_reducible refine HA.out.mono ?_); rintro e w1 ⟨rfl, b1⟩; have B1 := Lib.hid b1; clear b1)
    | (go_at_call 24; (with_reducible refine (HV.out w1).mono ?_); rintro e w2 ⟨rfl, b2⟩; have B2 := Lib.hid b2; clear b2))
  all_goals go_ret
  all_goals exact ⟨rfl, B1.out.trans (B2.out.mono B1.out.size)⟩

def RMade (B : Nat) (w : World) (m : Nat) (dv : Value) (fs : FL) (ns : List (List UInt8)) (ts : List Int) (p x : List UInt8) (e : Ending) (w' : World) : Prop :=
  e = .returned (.int .i64 0) ∧ ∃ lv' nv' tv', RT B w' m dv lv' nv' tv' (putL fs p x) (ns ++ [p]) (ts ++ [1]) ∧ w.grownBy w' (some m)

theorem grown_below {w w2 w5 : World} {r : Option Nat} (b : Below w.heap.size w w2) (g : w2.grownBy w5 r) : w.grownBy w5 r :=
  ⟨g.os.trans b.os, g.tape.trans b.tape, g.output.trans b.output, Nat.le_trans b.size g.size, fun i hi hne => (g.block i (Nat.lt_of_lt_of_le hi b.size) hne).trans (b.block i hi)⟩

set_option maxHeartbeats 1600000 in
theorem rCreate_ok {B : Nat} {w : World} {m : Nat} {dv lv nv tv : Value} {fs : FL} {ns : List (List UInt8)} {ts : List Int} (h : RT B w m dv lv nv tv fs ns ts) (s : ByteArray) (hv : validB s.data.toList = true) (hb : atB fs s.data.toList = false) (hs : s.data.toList ∉ ns)
    (hf : fs.length < 50) (hn : ns.length < 100000) (ht : ts.length < 100000) :
    Calls Tryd.prog 12 #[.pointer (some ⟨m, 0, none⟩), .string s, .string ⟨#[]⟩] w (RMade B w m dv fs ns ts s.data.toList []) := by
  have hV := fun w1 => valid_any s w1
  rw [hv] at hV
  have HV := Lib.hid hV
  have hA := rAt_any h s
  rw [hb] at hA
  have HA := Lib.hid hA
  have H := Lib.hid h
  obtain ⟨a, cap, rfl, -, -, -⟩ := row_form h.files
  have hB := hb
  have HP := Lib.hid (fun w2 (r : RT B w2 m dv (.slice a fs.length cap) nv tv fs ns ts) => put_new r s ⟨#[]⟩ hB hs (by omega) hn ht)
  have hnot := not_run
  have h50 : ¬ (50 : Int) ≤ (fs.length : Int) := by omega
  clear hV h hA hb hs
  go_enter Tryd.func12, Tryd.ntmps12
  go_wp2_with (first
    | (go_at_call 31; (with_reducible refine HA.out.mono ?_); rintro e w1 ⟨rfl, b1⟩; have B1 := Lib.hid b1; clear b1)
    | (go_at_call 24; (with_reducible refine (HV.out w1).mono ?_); rintro e w2 ⟨rfl, b2⟩; have B2 := Lib.hid (B1.out.trans (b2.mono B1.out.size)); have H2 := Lib.hid (H.out.below B2.out); obtain ⟨-, c1, -, -⟩ := H2.out.cells; have hm2 : m < w2.heap.size := lt_of_heap H2.out.tbl; clear b2)
    | (go_at_call 32; (with_reducible refine (HP.out w2 H2.out).mono ?_); rintro e w3 ⟨rfl, lv3, nv3, tv3, r3, g3⟩; have R3 := Lib.hid r3; have G3 := Lib.hid g3; clear r3 g3))
  all_goals go_ret
  all_goals exact ⟨rfl, lv3, nv3, tv3, R3.out, grown_below B2.out G3.out⟩

def findDirs (f : List UInt8) (xs : List (List UInt8)) (q : Bool) : List (List UInt8) := (if q then [dirL f] else []) ++ xs
def rfind (t : Tab) (n f : List UInt8) (xs : List (List UInt8)) (q : Bool) : Option (List UInt8) := (findDirs f xs q).findSome? (withinT t n)

def RFindRel (w : World) (L : List (List UInt8)) (g : List UInt8 → Option (List UInt8)) (i : Value) (wr : World) : Prop :=
  ∃ k : Nat, i = .int .i64 (k : Int) ∧ k ≤ L.length ∧ Below w.heap.size w wr ∧ (L.take k).findSome? g = none

theorem up_nil {W w : World} (b : Below W.heap.size W w) (e : TypeId) (size : Nat) : Up W e size (.slice none 0 0) 0 [] w := ⟨World.ownsRow_nil _ _ _ _, b⟩

theorem src_strs {a : Option Addr} {cap : Nat} {xs : List (List UInt8)} {w : World} (h : StrsAt a xs w) (ha : a = none → cap = 0) : Src w (.slice a xs.length cap) xs.length 1 (strs xs) := by
  cases a with
  | none =>
    have hx : xs = [] := by
      cases xs with
      | nil => rfl
      | cons x r =>
        obtain ⟨ad, h1, -⟩ := h 0 x rfl
        cases h1
    subst hx
    rw [ha rfl]
    exact .inl ⟨rfl, rfl, rfl⟩
  | some ad =>
    refine .inr ⟨ad, cap, rfl, by simp [strs], fun j u hj => ?_⟩
    simp only [strs, List.getElem?_map, Option.map_eq_some_iff] at hj
    obtain ⟨x, hx, rfl⟩ := hj
    obtain ⟨ad', h1, -, h3⟩ := h j x hx
    cases h1
    exact h3

theorem strsAt_below {a : Option Addr} {xs : List (List UInt8)} {w w' : World} (h : StrsAt a xs w) (b : Below w.heap.size w w') : StrsAt a xs w' := fun i x hx => by
  obtain ⟨ad, h1, h2, h3⟩ := h i x hx
  exact ⟨ad, h1, Nat.lt_of_lt_of_le h2 b.size, (b.cell (p := ad.add i) (by rw [add_block]; exact h2)).trans h3⟩

theorem find_own {W w : World} {v : Value} {n : Nat} {ys : List Value} {L : List (List UInt8)} {N : Nat} (h : Up W 9 1 v n ys w) (hy : ys = strs L) (hN : L.length = N) : ∃ a cap, v = .slice a N cap ∧ StrsAt a L w := by
  have hl : n = L.length := by
    have := h.1.1
    rw [hy] at this
    simp [strs] at this
    exact this.symm
  subst hN
  rw [hl, hy] at h
  exact own_strsAt h.1

set_option maxRecDepth 100000 in
set_option maxHeartbeats 3200000 in
theorem rFind_plain {B : Nat} {w : World} {m : Nat} {a : Option Addr} {cap : Nat} {lv nv tv : Value} {fs : FL} {ns : List (List UInt8)} {ts : List Int} {xs : List (List UInt8)} (h : RT B w m (.slice a xs.length cap) lv nv tv fs ns ts) (hS : StrsAt a xs w) (ha : a = none → cap = 0) (t : Tab) (hat : ∀ l, atB fs l = (t.file l).isSome) (f n : ByteArray) (hf : f.size ≤ 400) (hn : n.size ≤ 500) (hd : ∀ d ∈ xs, d.length ≤ 400) (hdl : xs.length ≤ 100000) :
    Calls Tryd.prog 14 #[.pointer (some ⟨m, 0, none⟩), .string f, .string n, .bool false] w (FindPost w (rfind t n.data.toList f.data.toList xs false)) := by
  obtain ⟨i0, hi, hz0, hz1, hz2⟩ := info_parts Tryd.infoStr
  obtain ⟨c0, -, -, -⟩ := h.cells
  have hml : m < w.heap.size := lt_of_heap h.tbl
  have H := Lib.hid h
  have HAT := Lib.hid (fun l => (hat l).symm)
  have hdl2 := dirL_le f.data.toList
  have hd2 : ∀ x ∈ findDirs f.data.toList xs false, x.length ≤ 400 := fun x hx => by
    rcases List.mem_append.1 hx with hx | hx
    · simp at hx
      try (subst hx; rw [psize] at hdl2; omega)
    · exact hd x hx
  have HD := Lib.hid hd2
  have SS := Lib.hid (fun X (b : Below w.heap.size w X) => src_strs (strsAt_below hS b) ha)
  have HDir := Lib.hid (fun w1 => dir_any f w1 (by omega))
  obtain ⟨D, hDD⟩ : ∃ D : ByteArray, (⟨(dirL f.data.toList).toArray⟩ : ByteArray) = D := ⟨_, rfl⟩
  rw [hDD] at HDir
  obtain ⟨N, hN⟩ : ∃ N, (findDirs f.data.toList xs false).length = N := ⟨_, rfl⟩
  have LN := Lib.hid hN
  have hNl : N ≤ 100001 := by
    rw [← hN]
    simp [findDirs]
    omega
  have hDs : [] ++ strs xs = strs (findDirs f.data.toList xs false) := by
    try rw [← hDD]
    rfl
  have HDS := Lib.hid hDs
  clear h hS hat hd hd2 hN hDs hDD hdl2
  go_enter Tryd.func14, Tryd.ntmps14
  go_wp2_with (first
    | (at_builtin; refine wpList_append_ex rfl (.tmp 22) (.tmp 26) 22 rfl _ (app_up Tryd.underlying22 hi hz0 hz1 hz2 rfl (by decide) (by decide) (up_nil (Below.refl w.heap.size w) 9 1) (SS.out w (Below.refl _ _)) (strs_one xs) (by omega)) ?_; intro v2 w2 hu2; obtain ⟨a2, cap2, rfl, s2⟩ := find_own hu2 HDS.out LN.out; have S2 := Lib.hid s2; have B2 := Lib.hid hu2.2; clear hu2 s2))
  go_loopw [11] (RFindRel w2 (findDirs f.data.toList xs false) (withinT t n.data.toList)) (fun i _ => N - (intOf i).toNat)
  case atStart => exact ⟨0, rfl, Nat.zero_le _, Below.refl _ _, rfl⟩
  case round =>
    obtain ⟨k, rfl, hk, hbel, hnone⟩ := hrel
    have HB := Lib.hid hbel
    have HN := Lib.hid hnone
    have BW := Lib.hid (B2.out.trans (hbel.mono B2.out.size))
    clear hbel hnone
    by_cases hlt : k < N
    · obtain ⟨x, hx⟩ : ∃ x, (findDirs f.data.toList xs false)[k]? = some x := ⟨_, List.getElem?_eq_getElem (by rw [LN.out]; exact hlt)⟩
      obtain ⟨ad, had, hadl, hcell⟩ := S2.out k x hx
      subst had
      have hcw := (HB.out.cell (p := ad.add k) (by rw [add_block]; exact hadl)).trans hcell
      obtain ⟨b, hb⟩ : ∃ b : ByteArray, (⟨x.toArray⟩ : ByteArray) = b := ⟨_, rfl⟩
      rw [hb] at hcw
      have hbx : b.data.toList = x := by rw [← hb]
      have hbs : b.size + n.size ≤ 300000 := by
        have h1 := HD.out x (List.mem_of_getElem? hx)
        have h2 : b.size = x.length := by rw [← hbx]; simp
        omega
      have HX := Lib.hid hx
      have hj := refJoin_any b n wr hbs
      rw [hbx] at hj
      have hki : (k : Int) < (N : Int) := by omega
      have hk0 : (0 : Int) ≤ (k : Int) := by omega
      clear hcell hx hb
      cases hy : joinPath x n.data.toList with
      | none =>
        rw [hy] at hj
        have hj' : Calls Tryd.prog 36 #[.string b, .string n] wr fun e w' => e = .returned (.tuple #[.string ⟨#[]⟩, .int .i64 1]) ∧ Below wr.heap.size wr w' := hj
        have hfin : ((findDirs f.data.toList xs false).take (k + 1)).findSome? (withinT t n.data.toList) = none := by
          rw [find_take _ _ k x HX.out, HN.out]
          unfold withinT
          rw [hy]
          rfl
        have HF := Lib.hid hfin
        have HJ := Lib.hid hj'
        clear hfin hj hj' hy hbx
        go_wp2_with (go_at_call 36; refine HJ.out.mono ?_; rintro e w3 ⟨rfl, b3⟩; have B3 := Lib.hid (HB.out.trans (b3.mono HB.out.size)); clear b3)
        go_roundw
        case rel => exact ⟨k + 1, by go_num, by rw [LN.out]; exact hlt, B3.out, HF.out⟩
        case measure => simp [intOf]; omega
      | some y =>
        rw [hy] at hj
        have hj' : Calls Tryd.prog 36 #[.string b, .string n] wr fun e w' => e = .returned (.tuple #[.string ⟨y.toArray⟩, .int .i64 0]) ∧ Below wr.heap.size wr w' := hj
        have HJ := Lib.hid hj'
        have ha := fun w1 (r : RT B w1 m (.slice a xs.length cap) lv nv tv fs ns ts) => rAt_any r ⟨y.toArray⟩
        simp only at ha
        have hwi : withinT t n.data.toList x = if atB fs y then some y else none := by
          unfold withinT
          rw [hy]
          show (if (t.file y).isSome = true then some y else none) = _
          rw [HAT.out y]
        obtain ⟨Y, hY⟩ : ∃ Y : ByteArray, (⟨y.toArray⟩ : ByteArray) = Y := ⟨_, rfl⟩
        rw [hY] at HJ ha
        clear hj hj'
        cases hat : atB fs y with
        | true =>
          rw [hat] at ha hwi
          have hfin : ∀ w', Below w.heap.size w w' → FindPost w (rfind t n.data.toList f.data.toList xs false) (.returned (.tuple #[.string Y, .bool true])) w' := fun w' hb => by
            unfold rfind
            rw [find_hit _ _ k x y HX.out HN.out hwi, ← hY]
            exact ⟨rfl, hb⟩
          have HF := Lib.hid hfin
          have HA := Lib.hid ha
          clear hfin hy hwi ha hat hbx hY
          go_wp2_with (first
            | (go_at_call 36; refine HJ.out.mono ?_; rintro e w3 ⟨rfl, b3⟩; have B3 := Lib.hid (BW.out.trans (b3.mono BW.out.size)); have R3 := Lib.hid (H.out.below B3.out); clear b3)
            | (go_at_call 31; (with_reducible refine (HA.out w3 R3.out).mono ?_); rintro e w4 ⟨rfl, b4⟩; have B4 := Lib.hid (B3.out.trans (b4.mono B3.out.size)); clear b4))
          go_ret2
          exact HF.out _ B4.out
        | false =>
          rw [hat] at ha hwi
          have hfin : ((findDirs f.data.toList xs false).take (k + 1)).findSome? (withinT t n.data.toList) = none := by
            rw [find_take _ _ k x HX.out, HN.out, hwi]
            rfl
          have HF := Lib.hid hfin
          have HA := Lib.hid ha
          clear hfin hy hwi ha hat hbx hY
          go_wp2_with (first
            | (go_at_call 36; refine HJ.out.mono ?_; rintro e w3 ⟨rfl, b3⟩; have B3 := Lib.hid (BW.out.trans (b3.mono BW.out.size)); have C3 := Lib.hid (HB.out.trans (b3.mono HB.out.size)); have R3 := Lib.hid (H.out.below B3.out); clear b3)
            | (go_at_call 31; (with_reducible refine (HA.out w3 R3.out).mono ?_); rintro e w4 ⟨rfl, b4⟩; have C4 := Lib.hid (C3.out.trans (b4.mono C3.out.size)); clear b4))
          go_roundw
          case rel => exact ⟨k + 1, by go_num, by rw [LN.out]; exact hlt, C4.out, HF.out⟩
          case measure => simp [intOf]; omega
    · have hge : ¬ ((k : Int) < (N : Int)) := by omega
      have hfin : FindPost w (rfind t n.data.toList f.data.toList xs false) (.returned (.tuple #[.string ⟨#[]⟩, .bool false])) wr := by
        have h1 := HN.out
        rw [List.take_of_length_le (by rw [LN.out]; omega)] at h1
        unfold rfind
        rw [h1]
        exact ⟨rfl, BW.out⟩
      have HF := Lib.hid hfin
      clear hfin
      go_wp2
      go_ret2
      exact HF.out


set_option maxRecDepth 100000 in
set_option maxHeartbeats 3200000 in
theorem rFind_quote {B : Nat} {w : World} {m : Nat} {a : Option Addr} {cap : Nat} {lv nv tv : Value} {fs : FL} {ns : List (List UInt8)} {ts : List Int} {xs : List (List UInt8)} (h : RT B w m (.slice a xs.length cap) lv nv tv fs ns ts) (hS : StrsAt a xs w) (ha : a = none → cap = 0) (t : Tab) (hat : ∀ l, atB fs l = (t.file l).isSome) (f n : ByteArray) (hf : f.size ≤ 400) (hn : n.size ≤ 500) (hd : ∀ d ∈ xs, d.length ≤ 400) (hdl : xs.length ≤ 100000) :
    Calls Tryd.prog 14 #[.pointer (some ⟨m, 0, none⟩), .string f, .string n, .bool true] w (FindPost w (rfind t n.data.toList f.data.toList xs true)) := by
  obtain ⟨i0, hi, hz0, hz1, hz2⟩ := info_parts Tryd.infoStr
  obtain ⟨c0, -, -, -⟩ := h.cells
  have hml : m < w.heap.size := lt_of_heap h.tbl
  have H := Lib.hid h
  have HAT := Lib.hid (fun l => (hat l).symm)
  have hdl2 := dirL_le f.data.toList
  have hd2 : ∀ x ∈ findDirs f.data.toList xs true, x.length ≤ 400 := fun x hx => by
    rcases List.mem_append.1 hx with hx | hx
    · simp at hx
      try (subst hx; rw [psize] at hdl2; omega)
    · exact hd x hx
  have HD := Lib.hid hd2
  have SS := Lib.hid (fun X (b : Below w.heap.size w X) => src_strs (strsAt_below hS b) ha)
  have HDir := Lib.hid (fun w1 => dir_any f w1 (by omega))
  obtain ⟨D, hDD⟩ : ∃ D : ByteArray, (⟨(dirL f.data.toList).toArray⟩ : ByteArray) = D := ⟨_, rfl⟩
  rw [hDD] at HDir
  obtain ⟨N, hN⟩ : ∃ N, (findDirs f.data.toList xs true).length = N := ⟨_, rfl⟩
  have LN := Lib.hid hN
  have hNl : N ≤ 100001 := by
    rw [← hN]
    simp [findDirs]
    omega
  have hDs : [] ++ [Value.string D] ++ strs xs = strs (findDirs f.data.toList xs true) := by
    try rw [← hDD]
    rfl
  have HDS := Lib.hid hDs
  clear h hS hat hd hd2 hN hDs hDD hdl2
  go_enter Tryd.func14, Tryd.ntmps14
  go_wp2_with (first
    | (go_at_call 35; refine (HDir.out _).mono ?_; rintro e w1 ⟨rfl, rfl⟩; have U0 := Lib.hid ((up_nil (Below.refl w.heap.size w) 9 1).alloc (.cells #[.string D] 9)); have S0 := Lib.hid (src_one w (.string D) 9))
    | (at_builtin; refine wpList_append_ex rfl (.tmp 17) (.tmp 20) 22 rfl _ (app_up Tryd.underlying22 hi hz0 hz1 hz2 rfl (by decide) (by decide) U0.out S0.out one_str (by omega)) ?_; intro v1 w1 hu1; have c1 := (hu1.2.cell (p := ⟨m, 0, none⟩) hml).trans c0; have hm1 : m < w1.heap.size := Nat.lt_of_lt_of_le hml hu1.2.size; have U1 := Lib.hid hu1; clear hu1)
    | (at_builtin; refine wpList_append_ex rfl (.tmp 22) (.tmp 26) 22 rfl _ (app_up Tryd.underlying22 hi hz0 hz1 hz2 rfl (by decide) (by decide) U1.out (SS.out w1 U1.out.2) (strs_one xs) (by omega)) ?_; intro v2 w2 hu2; obtain ⟨a2, cap2, rfl, s2⟩ := find_own hu2 HDS.out LN.out; have S2 := Lib.hid s2; have B2 := Lib.hid hu2.2; clear hu2 s2))
  go_loopw [11] (RFindRel w2 (findDirs f.data.toList xs true) (withinT t n.data.toList)) (fun i _ => N - (intOf i).toNat)
  case atStart => exact ⟨0, rfl, Nat.zero_le _, Below.refl _ _, rfl⟩
  case round =>
    obtain ⟨k, rfl, hk, hbel, hnone⟩ := hrel
    have HB := Lib.hid hbel
    have HN := Lib.hid hnone
    have BW := Lib.hid (B2.out.trans (hbel.mono B2.out.size))
    clear hbel hnone
    by_cases hlt : k < N
    · obtain ⟨x, hx⟩ : ∃ x, (findDirs f.data.toList xs true)[k]? = some x := ⟨_, List.getElem?_eq_getElem (by rw [LN.out]; exact hlt)⟩
      obtain ⟨ad, had, hadl, hcell⟩ := S2.out k x hx
      subst had
      have hcw := (HB.out.cell (p := ad.add k) (by rw [add_block]; exact hadl)).trans hcell
      obtain ⟨b, hb⟩ : ∃ b : ByteArray, (⟨x.toArray⟩ : ByteArray) = b := ⟨_, rfl⟩
      rw [hb] at hcw
      have hbx : b.data.toList = x := by rw [← hb]
      have hbs : b.size + n.size ≤ 300000 := by
        have h1 := HD.out x (List.mem_of_getElem? hx)
        have h2 : b.size = x.length := by rw [← hbx]; simp
        omega
      have HX := Lib.hid hx
      have hj := refJoin_any b n wr hbs
      rw [hbx] at hj
      have hki : (k : Int) < (N : Int) := by omega
      have hk0 : (0 : Int) ≤ (k : Int) := by omega
      clear hcell hx hb
      cases hy : joinPath x n.data.toList with
      | none =>
        rw [hy] at hj
        have hj' : Calls Tryd.prog 36 #[.string b, .string n] wr fun e w' => e = .returned (.tuple #[.string ⟨#[]⟩, .int .i64 1]) ∧ Below wr.heap.size wr w' := hj
        have hfin : ((findDirs f.data.toList xs true).take (k + 1)).findSome? (withinT t n.data.toList) = none := by
          rw [find_take _ _ k x HX.out, HN.out]
          unfold withinT
          rw [hy]
          rfl
        have HF := Lib.hid hfin
        have HJ := Lib.hid hj'
        clear hfin hj hj' hy hbx
        go_wp2_with (go_at_call 36; refine HJ.out.mono ?_; rintro e w3 ⟨rfl, b3⟩; have B3 := Lib.hid (HB.out.trans (b3.mono HB.out.size)); clear b3)
        go_roundw
        case rel => exact ⟨k + 1, by go_num, by rw [LN.out]; exact hlt, B3.out, HF.out⟩
        case measure => simp [intOf]; omega
      | some y =>
        rw [hy] at hj
        have hj' : Calls Tryd.prog 36 #[.string b, .string n] wr fun e w' => e = .returned (.tuple #[.string ⟨y.toArray⟩, .int .i64 0]) ∧ Below wr.heap.size wr w' := hj
        have HJ := Lib.hid hj'
        have ha := fun w1 (r : RT B w1 m (.slice a xs.length cap) lv nv tv fs ns ts) => rAt_any r ⟨y.toArray⟩
        simp only at ha
        have hwi : withinT t n.data.toList x = if atB fs y then some y else none := by
          unfold withinT
          rw [hy]
          show (if (t.file y).isSome = true then some y else none) = _
          rw [HAT.out y]
        obtain ⟨Y, hY⟩ : ∃ Y : ByteArray, (⟨y.toArray⟩ : ByteArray) = Y := ⟨_, rfl⟩
        rw [hY] at HJ ha
        clear hj hj'
        cases hat : atB fs y with
        | true =>
          rw [hat] at ha hwi
          have hfin : ∀ w', Below w.heap.size w w' → FindPost w (rfind t n.data.toList f.data.toList xs true) (.returned (.tuple #[.string Y, .bool true])) w' := fun w' hb => by
            unfold rfind
            rw [find_hit _ _ k x y HX.out HN.out hwi, ← hY]
            exact ⟨rfl, hb⟩
          have HF := Lib.hid hfin
          have HA := Lib.hid ha
          clear hfin hy hwi ha hat hbx hY
          go_wp2_with (first
            | (go_at_call 36; refine HJ.out.mono ?_; rintro e w3 ⟨rfl, b3⟩; have B3 := Lib.hid (BW.out.trans (b3.mono BW.out.size)); have R3 := Lib.hid (H.out.below B3.out); clear b3)
            | (go_at_call 31; (with_reducible refine (HA.out w3 R3.out).mono ?_); rintro e w4 ⟨rfl, b4⟩; have B4 := Lib.hid (B3.out.trans (b4.mono B3.out.size)); clear b4))
          go_ret2
          exact HF.out _ B4.out
        | false =>
          rw [hat] at ha hwi
          have hfin : ((findDirs f.data.toList xs true).take (k + 1)).findSome? (withinT t n.data.toList) = none := by
            rw [find_take _ _ k x HX.out, HN.out, hwi]
            rfl
          have HF := Lib.hid hfin
          have HA := Lib.hid ha
          clear hfin hy hwi ha hat hbx hY
          go_wp2_with (first
            | (go_at_call 36; refine HJ.out.mono ?_; rintro e w3 ⟨rfl, b3⟩; have B3 := Lib.hid (BW.out.trans (b3.mono BW.out.size)); have C3 := Lib.hid (HB.out.trans (b3.mono HB.out.size)); have R3 := Lib.hid (H.out.below B3.out); clear b3)
            | (go_at_call 31; (with_reducible refine (HA.out w3 R3.out).mono ?_); rintro e w4 ⟨rfl, b4⟩; have C4 := Lib.hid (C3.out.trans (b4.mono C3.out.size)); clear b4))
          go_roundw
          case rel => exact ⟨k + 1, by go_num, by rw [LN.out]; exact hlt, C4.out, HF.out⟩
          case measure => simp [intOf]; omega
    · have hge : ¬ ((k : Int) < (N : Int)) := by omega
      have hfin : FindPost w (rfind t n.data.toList f.data.toList xs true) (.returned (.tuple #[.string ⟨#[]⟩, .bool false])) wr := by
        have h1 := HN.out
        rw [List.take_of_length_le (by rw [LN.out]; omega)] at h1
        unfold rfind
        rw [h1]
        exact ⟨rfl, BW.out⟩
      have HF := Lib.hid hfin
      clear hfin
      go_wp2
      go_ret2
      exact HF.out

end Go.Proofs.YtfjdfdpelilelaaDoor
