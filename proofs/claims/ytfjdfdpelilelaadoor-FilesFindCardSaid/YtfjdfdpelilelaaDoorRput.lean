/-
  The document's own table of files, in memory: a list that rises; At, turned, put.
-/
import Derived.Test.YtfjdfdpelilelaaDoorFOps
import Derived.Test.YtfjdfdpelilelaaDoorRefJoin
import Derived.Test.YtfjdfdpelilelaaDoorRefDir
import Derived.Test.YtfjdfdpelilelaaDoorRefStrs
import Derived.Deep.QuietTactic
import Derived.BigQuiet
import Derived.Laws.AppendOwnNone
import Derived.OwnWalk
namespace Go.Proofs.YtfjdfdpelilelaaDoor
open Go.RowKit

abbrev FL := List (List UInt8 × List UInt8)

def fcells (fs : FL) : List Value := fs.flatMap fun f => [Value.string ⟨f.1.toArray⟩, Value.string ⟨f.2.toArray⟩]

theorem fcells_len (fs : FL) : (fcells fs).length = fs.length * 2 := by
  induction fs with
  | nil => rfl
  | cons a r ih => simp [fcells] at ih ⊢; omega

theorem fcells_get : ∀ (fs : FL) (i : Nat) (f : List UInt8 × List UInt8), fs[i]? = some f → (fcells fs)[i * 2]? = some (.string ⟨f.1.toArray⟩) ∧ (fcells fs)[i * 2 + 1]? = some (.string ⟨f.2.toArray⟩)
  | [], i, f, h => by simp at h
  | a :: r, 0, f, h => by
    simp at h
    subst h
    exact ⟨rfl, rfl⟩
  | a :: r, i + 1, f, h => by
    have := fcells_get r i f (by simpa using h)
    show ([Value.string ⟨a.1.toArray⟩, Value.string ⟨a.2.toArray⟩] ++ fcells r)[(i + 1) * 2]? = _ ∧ ([Value.string ⟨a.1.toArray⟩, Value.string ⟨a.2.toArray⟩] ++ fcells r)[(i + 1) * 2 + 1]? = _
    rw [show (i + 1) * 2 = 2 + i * 2 from by omega, show 2 + i * 2 + 1 = 2 + (i * 2 + 1) from by omega, List.getElem?_append_right (by simp), List.getElem?_append_right (by simp)]
    simpa using this

def rtObj (dv lv nv tv : Value) : Obj := .cells #[dv, lv, nv, tv] 34 (0, 0)

structure RT (B : Nat) (w : World) (m : Nat) (dv lv nv tv : Value) (fs : FL) (ns : List (List UInt8)) (ts : List Int) : Prop where
  low : B ≤ m
  base : B ≤ w.heap.size
  tbl : w.heap[m]? = some (rtObj dv lv nv tv)
  files : w.ownsRow B 95 2 lv fs.length (fcells fs)
  names : OwnStrs B nv ns w
  times : w.ownsRow B 3 1 tv ts.length (ts.map (Value.int .i64))
  few : fs.length ≤ 100000 ∧ ns.length ≤ 100000 ∧ ts.length ≤ 100000

theorem Below.of_drews (w : World) (n : Nat) : Below w.heap.size w (w.drewN n) := ⟨rfl, rfl, rfl, Nat.le_refl _, fun _ _ => rfl⟩

/-- What stands ahead of a path. -/
def ltP (l : List UInt8) (f : List UInt8 × List UInt8) : Bool := Op.bytesLess f.1 l
def atN (fs : FL) (l : List UInt8) : Nat := (fs.takeWhile (ltP l)).length
def atB (fs : FL) (l : List UInt8) : Bool := match fs[atN fs l]? with | none => false | some f => f.1 == l

theorem atN_of {fs : FL} {l : List UInt8} {k : Nat} (hk : k ≤ fs.length) (h1 : ∀ f ∈ fs.take k, ltP l f = true) (h2 : ∀ f, fs[k]? = some f → ltP l f = false) : atN fs l = k := by
  unfold atN
  have e : fs = fs.take k ++ fs.drop k := (List.take_append_drop k fs).symm
  rw [e, List.takeWhile_append_of_pos h1]
  have : (fs.drop k).takeWhile (ltP l) = [] := by
    cases hd : fs.drop k with
    | nil => rfl
    | cons a r =>
      have ha : fs[k]? = some a := by
        have := List.getElem?_drop (xs := fs) (i := k) (j := 0)
        rw [hd] at this
        simpa using this.symm
      rw [List.takeWhile_cons, h2 a ha]
      rfl
  rw [this, List.append_nil, List.length_take]
  omega

theorem atN_le (fs : FL) (l : List UInt8) : atN fs l ≤ fs.length := (List.takeWhile_sublist _).length_le

theorem RT.below {B : Nat} {w w' : World} {m : Nat} {dv lv nv tv : Value} {fs : FL} {ns : List (List UInt8)} {ts : List Int} (h : RT B w m dv lv nv tv fs ns ts) (b : Below w.heap.size w w') : RT B w' m dv lv nv tv fs ns ts := by
  have hg : w.grownBy w' none := ⟨b.os, b.tape, b.output, b.size, fun k hk _ => b.block k hk⟩
  have hn : ∀ v : Value, v.ownBlock = none ∨ v.ownBlock ≠ none := fun v => by cases v.ownBlock <;> simp
  exact ⟨h.low, Nat.le_trans h.base b.size, (b.block m (lt_of_heap h.tbl)).trans h.tbl, World.ownsRow.kept h.files hg (hn _), World.ownsRow.kept h.names hg (hn _), World.ownsRow.kept h.times hg (hn _), h.few⟩

theorem row_ne_m {B : Nat} {w : World} {m : Nat} {dv lv nv tv v : Value} {e : TypeId} {size n : Nat} {xs : List Value} (ht : w.heap[m]? = some (rtObj dv lv nv tv)) (h : w.ownsRow B e size v n xs) (he : e ≠ 34) : v.ownBlock ≠ some m := by
  obtain ⟨-, ⟨rfl, -⟩ | ⟨g, cap, cur, rfl, -, hh, -⟩⟩ := h
  · simp [Value.ownBlock]
  · simp only [Value.ownBlock, ne_eq, Option.some.injEq]
    intro eg
    rw [eg, ht] at hh
    simp only [rtObj, Option.some.injEq, Obj.cells.injEq] at hh
    exact he hh.2.1.symm

theorem RT.setCell {B : Nat} {w : World} {m : Nat} {dv lv nv tv : Value} {fs : FL} {ns : List (List UInt8)} {ts : List Int} (h : RT B w m dv lv nv tv fs ns ts) (j : Nat) (v lv' nv' tv' : Value) {fs' : FL} {ns' : List (List UInt8)} {ts' : List Int}
    (hset : ((#[dv, lv, nv, tv] : Array Value).setIfInBounds j v) = #[dv, lv', nv', tv']) (h1 : w.ownsRow B 95 2 lv' fs'.length (fcells fs')) (h2 : OwnStrs B nv' ns' w) (h3 : w.ownsRow B 3 1 tv' ts'.length (ts'.map (Value.int .i64)))
    (hf : fs'.length ≤ 100000 ∧ ns'.length ≤ 100000 ∧ ts'.length ≤ 100000) : RT B (w.setCell ⟨m, j, none⟩ v) m dv lv' nv' tv' fs' ns' ts' := by
  have ho := One.setCell w m j v
  have hg : w.grownBy (w.setCell ⟨m, j, none⟩ v) (some m) := ⟨rfl, rfl, rfl, by simp [World.setCell], fun k _ hk => ho.block k fun e => hk (by rw [e])⟩
  refine ⟨h.low, by rw [ho.size]; exact h.base, ?_, World.ownsRow.kept h1 hg (.inr (row_ne_m h.tbl h1 (by decide))), World.ownsRow.kept h2 hg (.inr (row_ne_m h.tbl h2 (by decide))), World.ownsRow.kept h3 hg (.inr (row_ne_m h.tbl h3 (by decide))), hf⟩
  have ht := h.tbl
  unfold rtObj at ht ⊢
  rw [heap_setCell_same ht, hset]

theorem RT.cells {B : Nat} {w : World} {m : Nat} {dv lv nv tv : Value} {fs : FL} {ns : List (List UInt8)} {ts : List Int} (h : RT B w m dv lv nv tv fs ns ts) :
    w.cell? ⟨m, 0, none⟩ = some dv ∧ w.cell? ⟨m, 1, none⟩ = some lv ∧ w.cell? ⟨m, 2, none⟩ = some nv ∧ w.cell? ⟨m, 3, none⟩ = some tv := by
  have h1 := h.tbl
  unfold rtObj at h1
  refine ⟨?_, ?_, ?_, ?_⟩ <;> (rw [Lib.cell_of_heap h1]; rfl)

theorem row_form {B : Nat} {w : World} {v : Value} {e : TypeId} {size n : Nat} {xs : List Value} (h : w.ownsRow B e size v n xs) : ∃ a cap, v = .slice a n cap ∧ n ≤ cap ∧ cap ≤ maxLen ∧ ∀ j u, xs[j]? = some u → ∃ g, a = some ⟨g, 0, none⟩ ∧ g < w.heap.size ∧ w.cell? ⟨g, j, none⟩ = some u := by
  obtain ⟨h1, ⟨rfl, rfl⟩ | ⟨g, cap, cur, rfl, hg, hh, hc, hm, hs, ht⟩⟩ := h
  · exact ⟨none, 0, rfl, Nat.le_refl _, Nat.zero_le _, fun j u hj => by
      have : xs = [] := List.eq_nil_of_length_eq_zero (by omega)
      rw [this] at hj
      simp at hj⟩
  · refine ⟨_, cap, rfl, hc, hm, fun j u hj => ⟨g, rfl, lt_of_heap hh, ?_⟩⟩
    rw [Lib.cell_of_heap hh, ← Array.getElem?_toList]
    have hjl : j < n * size := by
      rcases Nat.lt_or_ge j xs.length with h | h
      · omega
      · rw [List.getElem?_eq_none h] at hj; cases hj
    have e : (cur.toList.take (n * size))[j]? = xs[j]? := by rw [ht]
    rw [List.getElem?_take_of_lt hjl] at e
    rw [e, hj]

def RAtRel (fs : FL) (l : List UInt8) (i : Value) : Prop := ∃ k : Nat, i = .int .i64 (k : Int) ∧ k ≤ fs.length ∧ ∀ f ∈ fs.take k, ltP l f = true

set_option maxRecDepth 100000 in
set_option maxHeartbeats 1600000 in
theorem rAt_any {B : Nat} {w : World} {m : Nat} {dv lv nv tv : Value} {fs : FL} {ns : List (List UInt8)} {ts : List Int} (h : RT B w m dv lv nv tv fs ns ts) (s : ByteArray) :
    Calls Tryd.prog 31 #[.pointer (some ⟨m, 0, none⟩), .string s] w fun e w' => e = .returned (.tuple #[.int .i64 (atN fs s.data.toList : Nat), .bool (atB fs s.data.toList)]) ∧ Below w.heap.size w w' := by
  obtain ⟨-, c1, -, -⟩ := h.cells
  obtain ⟨a, cap, rfl, hc1, hc2, hcell⟩ := row_form h.files
  have HCL := Lib.hid hcell
  have hfew := h.few.1
  unfold maxLen at hc2
  clear h hcell
  go_enter Tryd.func31, Tryd.ntmps31
  go_wp2
  go_loop [6] (RAtRel fs s.data.toList) (fun i => fs.length - (intOf i).toNat)
  case atStart => exact ⟨0, rfl, Nat.zero_le _, fun f hf => by simp at hf⟩
  case round =>
    obtain ⟨k, rfl, hk, hall⟩ := hrel
    have HALL := Lib.hid hall
    clear hall
    by_cases hlt : k < fs.length
    · obtain ⟨f, hf⟩ : ∃ f, fs[k]? = some f := ⟨_, List.getElem?_eq_getElem hlt⟩
      obtain ⟨g, hg, hgl, hcg⟩ := HCL.out _ _ (fcells_get fs k f hf).1
      subst hg
      obtain ⟨b, hb⟩ : ∃ b : ByteArray, (⟨f.1.toArray⟩ : ByteArray) = b := ⟨_, rfl⟩
      rw [hb] at hcg
      have hbf : b.data.toList = f.1 := by rw [← hb]
      have hki : (k : Int) < (fs.length : Int) := by omega
      have hk0 : (0 : Int) ≤ (k : Int) := by omega
      have HF := Lib.hid hf
      have hbt : b.toList = f.1 := by rw [ByteArray.toList_eq, hbf]
      have hst : s.toList = s.data.toList := ByteArray.toList_eq s
      cases hl : ltP s.data.toList f with
      | true =>
        have hl1 : Op.bytesLess b.toList s.toList = true := by rw [hbt, hst]; exact hl
        have HL := Lib.hid hl
        clear hf hb hbf hbt hst hl
        go_wp2
        go_round
        case rel =>
          refine ⟨k + 1, by go_num, hlt, fun y hy => ?_⟩
          rw [List.take_add_one, HF.out] at hy
          rcases List.mem_append.1 hy with h | h
          · exact HALL.out y h
          · simp at h
            rw [h]
            exact HL.out
        case measure => simp [intOf]; omega
      | false =>
        have hl1 : Op.bytesLess b.toList s.toList = false := by rw [hbt, hst]; exact hl
        have hN : atN fs s.data.toList = k := atN_of hk HALL.out fun y hy => by rw [HF.out] at hy; cases hy; exact hl
        have hB : atB fs s.data.toList = (f.1 == s.data.toList) := by
          unfold atB
          rw [hN, HF.out]
        have heq : (b.toList == s.toList) = (f.1 == s.data.toList) := by rw [hbt, hst]
        have HN := Lib.hid hN
        have HB := Lib.hid hB
        cases hq : (f.1 == s.data.toList) with
        | true =>
          rw [hq] at heq HB
          clear hf hb hbf hbt hst hl hN hB hq
          go_wp2
          go_quiet (fail)
          go_wp2
          go_ret2
          exact ⟨by rw [HN.out, HB.out]; rfl, Below.of_drews _ _⟩
        | false =>
          rw [hq] at heq HB
          clear hf hb hbf hbt hst hl hN hB hq
          go_wp2
          go_quiet (fail)
          go_wp2
          go_ret2
          exact ⟨by rw [HN.out, HB.out]; rfl, Below.of_drews _ _⟩
    · have hge : ¬ ((k : Int) < (fs.length : Int)) := by omega
      have hgd : decide ((k : Int) < (fs.length : Int)) = false := by simpa using hge
      have hkl : k = fs.length := by omega
      have hN : atN fs s.data.toList = k := atN_of hk HALL.out fun y hy => by rw [hkl] at hy; simp at hy
      have hB : atB fs s.data.toList = false := by
        unfold atB
        rw [hN, hkl]
        simp
      have HN := Lib.hid hN
      have HB := Lib.hid hB
      clear hN hB hkl
      go_wp2
      go_quiet (fail)
      go_wp2
      go_ret2
      exact ⟨by rw [HN.out, HB.out]; rfl, Below.of_drews _ _⟩

/-- A slice as a source: what its cells hold. -/
def Src (w : World) (sv : Value) (m size : Nat) (news : List Value) : Prop :=
  (sv = .slice none 0 0 ∧ m = 0 ∧ news = []) ∨ ∃ ad c, sv = .slice (some ad) m c ∧ news.length = m * size ∧ ∀ j u, news[j]? = some u → w.cell? (ad.add j) = some u

theorem add_block2 (a : Addr) (i : Nat) : (a.add i).block = a.block := by unfold Addr.add; split <;> rfl

theorem addr_add (g j : Nat) : (⟨g, 0, none⟩ : Addr).add j = ⟨g, j, none⟩ := by
  simp [Addr.add]
  intro h
  exact h.symm

theorem row_src {B : Nat} {w : World} {v : Value} {e : TypeId} {size n : Nat} {xs : List Value} (h : w.ownsRow B e size v n xs) : Src w v n size xs := by
  have h0 := h
  obtain ⟨h1, ⟨rfl, rfl⟩ | ⟨g, cap, cur, rfl, -⟩⟩ := h
  · exact .inl ⟨rfl, rfl, List.eq_nil_of_length_eq_zero (by omega)⟩
  · obtain ⟨a, cap', hv, -, -, hc⟩ := row_form h0
    refine .inr ⟨_, cap, rfl, h1, fun j u hj => ?_⟩
    obtain ⟨g', hg, -, hcell⟩ := hc j u hj
    simp only [Value.slice.injEq] at hv
    rw [hg] at hv
    simp only [Option.some.injEq, Addr.mk.injEq, and_true] at hv
    rw [addr_add, hv.1]
    exact hcell

theorem run_app {t ty e : TypeId} {i0 : TypeInfo} {z : Value} {size bytes : Nat} {B n m : Nat} {v sv : Value} {xs news : List Value} {w : World}
    (ht : Tryd.prog.underlying t = some (.slice e)) (hi : Tryd.prog.info? e = some i0) (hz : i0.zero = some z) (hsz : i0.size = size) (hby : i0.bytes = bytes) (hzs : z.cells.size = size) (hpos : 0 < size) (hbb : bytes ≤ 100)
    (hd : w.ownsRow B e size v n xs) (hs : Src w sv m size news) (h1 : ∀ u ∈ news, u.oneCell' = true) (hn : n + m ≤ 1000000) (hB : B ≤ w.heap.size) :
    ∃ v' w', (Builtin.append_ #[t, t] ty #[v, sv]).run Tryd.prog w = .ok v' w' ∧ (w'.ownsRow B e size v' (n + m) (xs ++ news) ∧ w.grownBy w' v.ownBlock) := by
  have hbytes : (n + m) * bytes ≤ 140737488355328 := by
    have := Nat.mul_le_mul hn hbb
    omega
  rcases hs with ⟨rfl, rfl, rfl⟩ | ⟨ad, c, rfl, hl, hc⟩
  · rw [List.append_nil]
    exact ⟨v, w, run_append_owned_none (P := Tryd.prog) (w := w) B t ty e i0 size ht hi v n xs hd, hd, World.grownBy.refl w _⟩
  · obtain ⟨v', w', hr, h2, h3, -⟩ := run_append_own (P := Tryd.prog) w B t ty e i0 z size bytes ht hi hz hsz hby hzs hpos v n xs hd ad m c news hl hc h1 (by unfold maxLen; omega) hbytes hB
    exact ⟨v', w', hr, h2, h3⟩

/-- An append of which it is known that it goes through. -/
theorem wpList_append_ex {ops : Array Oper} {rest : List Oper} {o : Oper} {a : Act} {w : World} {Q : Exit → Act → World → Prop} (hg : o.guard = none) (s x : Operand) (t : TypeId)
    (ho : o.op = .call { callee := .builtin .append, args := #[s, x], argTypes := #[t, t] }) (R : Value → World → Prop)
    (h : ∃ v' w', (Builtin.append_ #[t, t] o.type #[a.eval s, a.eval x]).run Tryd.prog w = .ok v' w' ∧ R v' w') (hK : ∀ v' w', R v' w' → wpList Tryd.prog ops Q rest (a.put o.dst v') w') : wpList Tryd.prog ops Q (o :: rest) a w := by
  obtain ⟨v', w', hr, hR⟩ := h
  refine wpList_plain hg fun K' hK' => ?_
  unfold Oper.wp
  simp only [execOp, ho, resolve, invoke, builtin, Sem.run_bind, Sem.run_pure, Result.andThen_ok, List.map_toArray, List.map_cons, List.map_nil, hr]
  exact hK' _ _ (hK v' w' hR)

theorem Tryd.infoInt : (Tryd.prog.info? 3).map (fun i => (i.zero, i.size, i.bytes)) = some (some (.int .i64 0), 1, 8) := by kernel_rfl
theorem Tryd.infoFile : (Tryd.prog.info? 95).map (fun i => (i.zero, i.size, i.bytes)) = some (some (.agg #[.string ⟨#[]⟩, .string ⟨#[]⟩]), 2, 32) := by kernel_rfl

theorem row_empty {B : Nat} {w : World} (e : TypeId) (size : Nat) (hB : B ≤ w.heap.size) : (w.alloc (.cells #[] e)).ownsRow B e size (.slice (some ⟨w.heap.size, 0, none⟩) 0 0) 0 [] :=
  World.ownsRow_made w #[] 0 hB (Nat.zero_le _) (by simp)

theorem strs_one (xs : List (List UInt8)) : ∀ u ∈ strs xs, u.oneCell' = true := by
  intro u hu
  simp only [strs, List.mem_map] at hu
  obtain ⟨x, _, rfl⟩ := hu
  rfl
theorem ints_one (xs : List Int) : ∀ u ∈ xs.map (Value.int .i64), u.oneCell' = true := by
  intro u hu
  simp only [List.mem_map] at hu
  obtain ⟨x, _, rfl⟩ := hu
  rfl
theorem fcells_one (fs : FL) : ∀ u ∈ fcells fs, u.oneCell' = true := by
  intro u hu
  simp only [fcells, List.mem_flatMap, List.mem_cons, List.not_mem_nil, or_false] at hu
  obtain ⟨x, _, rfl | rfl⟩ := hu <;> rfl

/-- A source of one element, just laid. -/
theorem src_one (w : World) (u : Value) (e : TypeId) : Src (w.alloc (.cells #[u] e)) (.slice (some ⟨w.heap.size, 0, none⟩) 1 1) 1 1 [u] :=
  .inr ⟨_, 1, rfl, rfl, fun j x hj => by
    match j, hj with
    | 0, hj => simp at hj; subst hj; simp [Addr.add]⟩

theorem Src.below {w w' : World} {sv : Value} {m size : Nat} {news : List Value} (h : Src w sv m size news) (hlt : ∀ ad m c, sv = .slice (some ad) m c → ad.block < w.heap.size) (b : Below w.heap.size w w') : Src w' sv m size news := by
  rcases h with h | ⟨ad, c, rfl, hl, hc⟩
  · exact .inl h
  · refine .inr ⟨ad, c, rfl, hl, fun j u hj => ?_⟩
    rw [b.cell (by rw [add_block2]; exact hlt ad m c rfl)]
    exact hc j u hj

/-- A row of the call's own, above W. -/
def Up (W : World) (e : TypeId) (size : Nat) (v : Value) (n : Nat) (xs : List Value) (w : World) : Prop :=
  w.ownsRow W.heap.size e size v n xs ∧ Below W.heap.size W w

theorem app_up {t ty e : TypeId} {i0 : TypeInfo} {z : Value} {size bytes : Nat} {n m : Nat} {v sv : Value} {xs news : List Value} {W w : World}
    (ht : Tryd.prog.underlying t = some (.slice e)) (hi : Tryd.prog.info? e = some i0) (hz : i0.zero = some z) (hsz : i0.size = size) (hby : i0.bytes = bytes) (hzs : z.cells.size = size) (hpos : 0 < size) (hbb : bytes ≤ 100)
    (hd : Up W e size v n xs w) (hs : Src w sv m size news) (h1 : ∀ u ∈ news, u.oneCell' = true) (hn : n + m ≤ 1000000) :
    ∃ v' w', (Builtin.append_ #[t, t] ty #[v, sv]).run Tryd.prog w = .ok v' w' ∧ Up W e size v' (n + m) (xs ++ news) w' := by
  obtain ⟨v', w', hr, h2, h3⟩ := run_app (ty := ty) ht hi hz hsz hby hzs hpos hbb hd.1 hs h1 hn hd.2.size
  exact ⟨v', w', hr, h2, hd.2.grown h3 hd.2.size fun k hk => (World.ownsRow.lt hd.1 k hk).1⟩

theorem up_empty (w : World) (e : TypeId) (size : Nat) : Up w e size (.slice (some ⟨w.heap.size, 0, none⟩) 0 0) 0 [] (w.alloc (.cells #[] e)) :=
  ⟨row_empty e size (Nat.le_refl _), (Below.refl _ _).alloc (Nat.le_refl _) _⟩

theorem up_empty_set (w : World) (p : Addr) (u : Value) (e : TypeId) (size : Nat) : Up (w.setCell p u) e size (.slice (some ⟨w.heap.size, 0, none⟩) 0 0) 0 [] ((w.setCell p u).alloc (.cells #[] e)) := by
  have h := up_empty (w.setCell p u) e size
  rw [show (w.setCell p u).heap.size = w.heap.size from by simp [World.setCell]] at h
  exact h

theorem Up.alloc {W w : World} {e : TypeId} {size : Nat} {v : Value} {n : Nat} {xs : List Value} (h : Up W e size v n xs w) (o : Obj) : Up W e size v n xs (w.alloc o) :=
  ⟨World.ownsRow.alloc h.1 o, h.2.alloc h.2.size o⟩

/-- A row that was there is a source in any world above. -/
theorem row_src_up {B : Nat} {W w : World} {v : Value} {e : TypeId} {size n : Nat} {xs : List Value} (h : W.ownsRow B e size v n xs) (b : Below W.heap.size W w) : Src w v n size xs :=
  (row_src h).below (fun ad m c e => (World.ownsRow.lt h ad.block (by rw [e]; simp [Value.ownBlock])).2) b

def RTurnRel (n : Nat) (i : Value) : Prop := ∃ k : Nat, i = .int .i64 (k : Int) ∧ k ≤ n

def TurnedPost (B : Nat) (w : World) (m : Nat) (dv lv : Value) (fs : FL) (ns : List (List UInt8)) (ts : List Int) (x : List UInt8) (e : Ending) (w' : World) : Prop :=
  e = .returned (.tuple #[]) ∧ ∃ nv' tv', RT B w' m dv lv nv' tv' fs (ns ++ [x]) (ts ++ [1]) ∧ w.grownBy w' (some m)

theorem own_list {B : Nat} {v : Value} {xs : List (List UInt8)} {x : List UInt8} {w : World} {n : Nat} (h : w.ownsRow B 9 1 v (n + 1) (strs xs ++ [Value.string ⟨x.toArray⟩])) (hn : xs.length = n) : OwnStrs B v (xs ++ [x]) w := by
  subst hn
  exact own_put h

theorem grown_one {w w2 w4 : World} {m j i : Nat} {u v : Value} (b2 : Below w.heap.size w w2) (b4 : Below (w2.setCell ⟨m, j, none⟩ u).heap.size (w2.setCell ⟨m, j, none⟩ u) w4) : w.grownBy (w4.setCell ⟨m, i, none⟩ v) (some m) := by
  have o3 := One.setCell w2 m j u
  have o5 := One.setCell w4 m i v
  have hs : w.heap.size ≤ w4.heap.size := Nat.le_trans (Nat.le_trans b2.size (Nat.le_of_eq o3.size.symm)) b4.size
  refine ⟨b4.os.trans b2.os, b4.tape.trans b2.tape, b4.output.trans b2.output, by rw [o5.size]; exact hs, fun k hk hne => ?_⟩
  have hkm : k ≠ m := fun e => hne (by rw [e])
  have h3 : k < (w2.setCell ⟨m, j, none⟩ u).heap.size := by rw [o3.size]; exact Nat.lt_of_lt_of_le hk b2.size
  rw [o5.block k hkm, b4.block k h3, o3.block k hkm, b2.block k hk]

theorem one_str {s : ByteArray} : ∀ u ∈ [Value.string s], u.oneCell' = true := by
  intro u hu
  simp at hu
  subst hu
  rfl

theorem one_int : ∀ u ∈ [Value.int .i64 1], u.oneCell' = true := by
  intro u hu
  simp at hu
  subst hu
  rfl

theorem RT.free {B : Nat} {w : World} {m : Nat} {dv lv nv tv : Value} {fs : FL} {ns : List (List UInt8)} {ts : List Int} (h : RT B w m dv lv nv tv fs ns ts) (j : Nat) : w.frozen? ⟨m, j, none⟩ = false := by
  have h1 := h.tbl
  unfold rtObj at h1
  exact Lib.frozen_of_heap h1 _

theorem row_low {w : World} {base base' : Nat} {e : TypeId} {size : Nat} {v : Value} {n : Nat} {xs : List Value} (h : w.ownsRow base e size v n xs) (hb : base' ≤ base) : w.ownsRow base' e size v n xs := by
  obtain ⟨h1, h2 | ⟨g, cap, cur, rfl, hg, h3⟩⟩ := h
  · exact ⟨h1, .inl h2⟩
  · exact ⟨h1, .inr ⟨g, cap, cur, rfl, Nat.le_trans hb hg, h3⟩⟩

theorem names_up {B : Nat} {W w : World} {v : Value} {ns : List (List UInt8)} {s : ByteArray} (hB : B ≤ W.heap.size) (h : Up W 9 1 v (ns.length + 1) (strs ns ++ [.string s]) w) : OwnStrs B v (ns ++ [s.data.toList]) w := by
  have h1 := row_low h.1 hB
  exact own_list h1 rfl

theorem times_up {B : Nat} {W w : World} {v : Value} {ts : List Int} (hB : B ≤ W.heap.size) (h : Up W 3 1 v (ts.length + 1) (ts.map (Value.int .i64) ++ [.int .i64 1]) w) : w.ownsRow B 3 1 v (ts ++ [1]).length ((ts ++ [1]).map (Value.int .i64)) := by
  have h1 := row_low h.1 hB
  rw [List.length_append, List.map_append]
  exact h1

theorem turn_mid {B : Nat} {W w : World} {m : Nat} {dv lv nv tv : Value} {fs : FL} {ns : List (List UInt8)} {ts : List Int} {a : Option Addr} {cap : Nat} {s : ByteArray} (h : RT B W m dv lv nv tv fs ns ts) (hn : ns.length < 100000)
    (hu : Up W 9 1 (.slice a (ns.length + 1) cap) (ns.length + 1) (strs ns ++ [.string s]) w) :
    w.frozen? ⟨m, 2, none⟩ = false ∧ w.frozen? ⟨m, 3, none⟩ = false ∧ w.cell? ⟨m, 2, none⟩ = some nv ∧ w.cell? ⟨m, 3, none⟩ = some tv ∧ m < w.heap.size ∧ RT B (w.setCell ⟨m, 2, none⟩ (.slice a (ns.length + 1) cap)) m dv lv (.slice a (ns.length + 1) cap) tv fs (ns ++ [s.data.toList]) ts := by
  have h2 := h.below hu.2
  refine ⟨h2.free 2, h2.free 3, h2.cells.2.2.1, h2.cells.2.2.2, lt_of_heap h2.tbl, ?_⟩
  exact h2.setCell 2 _ _ _ _ rfl h2.files (names_up h.base hu) h2.times ⟨h.few.1, by simp; omega, h.few.2.2⟩

theorem turn_late {B : Nat} {W w : World} {m : Nat} {dv lv nv tv : Value} {fs : FL} {ns : List (List UInt8)} {ts : List Int} {v : Value} {n : Nat} {xs : List Value} {e : TypeId} {size : Nat} (h : RT B W m dv lv nv tv fs ns ts) (hu : Up W e size v n xs w) :
    w.frozen? ⟨m, 3, none⟩ = false ∧ w.cell? ⟨m, 3, none⟩ = some tv ∧ m < w.heap.size := by
  have h2 := h.below hu.2
  exact ⟨h2.free 3, h2.cells.2.2.2, lt_of_heap h2.tbl⟩

theorem turn_done {B : Nat} {W w : World} {m : Nat} {dv lv nv tv : Value} {fs : FL} {ns : List (List UInt8)} {ts : List Int} {v : Value} (h : RT B W m dv lv nv tv fs ns ts) (ht : ts.length < 100000)
    (hu : Up W 3 1 v (ts.length + 1) (ts.map (Value.int .i64) ++ [.int .i64 1]) w) : RT B (w.setCell ⟨m, 3, none⟩ v) m dv lv nv v fs ns (ts ++ [1]) := by
  have h2 := h.below hu.2
  exact h2.setCell 3 _ _ _ _ rfl h2.files h2.names (times_up h.base hu) ⟨h.few.1, h.few.2.1, by simp; omega⟩

set_option maxRecDepth 100000 in
set_option maxHeartbeats 3200000 in
theorem turned_new {B : Nat} {w : World} {m : Nat} {dv lv nv tv : Value} {fs : FL} {ns : List (List UInt8)} {ts : List Int} (h : RT B w m dv lv nv tv fs ns ts) (s : ByteArray) (hs : s.data.toList ∉ ns) (hn : ns.length < 100000) (ht : ts.length < 100000) :
    Calls Tryd.prog 53 #[.pointer (some ⟨m, 0, none⟩), .string s] w (TurnedPost B w m dv lv fs ns ts s.data.toList) := by
  obtain ⟨-, -, c2, c3⟩ := h.cells
  obtain ⟨i0, hi, hz0, hz1, hz2⟩ := info_parts Tryd.infoStr
  obtain ⟨k0, ki, kz0, kz1, kz2⟩ := info_parts Tryd.infoInt
  obtain ⟨a, cap, rfl, hc1, hc2, hcell⟩ := row_form h.names
  obtain ⟨ta, tcap, rfl, -, -, -⟩ := row_form h.times
  have HCL := Lib.hid hcell
  have hml : m < w.heap.size := lt_of_heap h.tbl
  have z2 : w.frozen? ⟨m, 2, none⟩ = false := by have h1 := h.tbl; unfold rtObj at h1; exact Lib.frozen_of_heap h1 _
  have z3 : w.frozen? ⟨m, 3, none⟩ = false := by have h1 := h.tbl; unfold rtObj at h1; exact Lib.frozen_of_heap h1 _
  have HS := Lib.hid hs
  have H := Lib.hid h
  unfold maxLen at hc2
  clear h hcell hs
  go_enter Tryd.func53, Tryd.ntmps53
  go_wp2
  go_loop [4] (RTurnRel ns.length) (fun i => ns.length - (intOf i).toNat)
  case atStart => exact ⟨0, rfl, Nat.zero_le _⟩
  case round =>
    obtain ⟨k, rfl, hk⟩ := hrel
    by_cases hlt : k < ns.length
    · obtain ⟨f, hf⟩ : ∃ f, ns[k]? = some f := ⟨_, List.getElem?_eq_getElem hlt⟩
      obtain ⟨g, hg, hgl, hcg⟩ := HCL.out k (.string ⟨f.toArray⟩) (by simp [strs, hf])
      subst hg
      have hne : ((⟨f.toArray⟩ : ByteArray).toList == s.toList) = false := by
        rw [ByteArray.toList_eq, ByteArray.toList_eq, beq_eq_false_iff_ne]
        intro e
        exact HS.out (by rw [← e]; exact List.mem_of_getElem? hf)
      obtain ⟨b, hb⟩ : ∃ b : ByteArray, (⟨f.toArray⟩ : ByteArray) = b := ⟨_, rfl⟩
      rw [hb] at hcg hne
      have hki : (k : Int) < (ns.length : Int) := by omega
      have hk0 : (0 : Int) ≤ (k : Int) := by omega
      clear hf hb
      go_wp2
      go_round
      case rel => exact ⟨k + 1, by go_num, hlt⟩
      case measure => simp [intOf]; omega
    · have hge : ¬ ((k : Int) < (ns.length : Int)) := by omega
      have R0 := Lib.hid (up_empty w 9 1)
      have S0 := Lib.hid (row_src_up H.out.names R0.out.2)
      go_wp2_with (first
        | (at_builtin; refine wpList_append_ex rfl (.tmp 42) (.tmp 46) 22 rfl _ (app_up Tryd.underlying22 hi hz0 hz1 hz2 rfl (by decide) (by decide) R0.out S0.out (strs_one ns) (by omega)) ?_; intro v1 w1 hu1; have U1 := Lib.hid (hu1.alloc (.cells #[.string s] 9)); have S1 := Lib.hid (src_one w1 (.string s) 9); clear hu1)
        | (at_builtin; refine wpList_append_ex rfl (.tmp 47) (.tmp 49) 22 rfl _ (app_up Tryd.underlying22 hi hz0 hz1 hz2 rfl (by decide) (by decide) U1.out S1.out one_str (by omega)) ?_; intro v2 w2 hu2; simp only [Nat.zero_add, List.nil_append] at hu2; obtain ⟨a2, cap2, rfl, -, -, -⟩ := row_form hu2.1; obtain ⟨y2, y3, e2, e3, hm2, h3⟩ := turn_mid H.out hn hu2; have U2 := Lib.hid hu2.2; have H3 := Lib.hid h3; have R3 := Lib.hid (up_empty_set w2 ⟨m, 2, none⟩ (.slice a2 (ns.length + 1) cap2) 3 1); have S3 := Lib.hid (row_src_up H3.out.times R3.out.2); clear hu2 h3)
        | (at_builtin; refine wpList_append_ex rfl (.tmp 54) (.tmp 58) 32 rfl _ (app_up Tryd.underlying32 ki kz0 kz1 kz2 rfl (by decide) (by decide) R3.out S3.out (ints_one ts) (by omega)) ?_; intro v3 w3 hu3; have U3 := Lib.hid (hu3.alloc (.cells #[.int .i64 1] 3)); have S4 := Lib.hid (src_one w3 (.int .i64 1) 3); clear hu3)
        | (at_builtin; refine wpList_append_ex rfl (.tmp 59) (.tmp 60) 32 rfl _ (app_up Tryd.underlying32 ki kz0 kz1 kz2 rfl (by decide) (by decide) U3.out S4.out one_int (by omega)) ?_; intro v4 w4 hu4; simp only [Nat.zero_add, List.nil_append] at hu4; obtain ⟨a4, cap4, rfl, -, -, -⟩ := row_form hu4.1; obtain ⟨y4, e4, hm4⟩ := turn_late H3.out hu4; have HU4 := Lib.hid hu4; clear hu4))
      go_end0
      exact ⟨rfl, .slice a2 (ns.length + 1) cap2, .slice a4 (ts.length + 1) cap4, turn_done H3.out ht HU4.out, grown_one U2.out HU4.out.2⟩

theorem fcells_append (a b : FL) : fcells (a ++ b) = fcells a ++ fcells b := by simp [fcells]

theorem fcells_split (fs : FL) (k : Nat) (hk : k ≤ fs.length) : fcells (fs.take k) = (fcells fs).take (k * 2) ∧ fcells (fs.drop k) = (fcells fs).drop (k * 2) := by
  have e : fcells fs = fcells (fs.take k) ++ fcells (fs.drop k) := by rw [← fcells_append, List.take_append_drop]
  have hl : (fcells (fs.take k)).length = k * 2 := by rw [fcells_len, List.length_take, Nat.min_eq_left hk]
  rw [e]
  exact ⟨(List.take_left' hl).symm, (List.drop_left' hl).symm⟩

theorem src_take {B : Nat} {w : World} {e : TypeId} {size n cap k : Nat} {a : Option Addr} {xs : List Value} (h : w.ownsRow B e size (.slice a n cap) n xs) (hk : k ≤ n) : Src w (.slice a k cap) k size (xs.take (k * size)) := by
  have h0 := h
  obtain ⟨h1, ⟨hv, rfl⟩ | ⟨g, cap', cur, hv, -, hh, hc, hm, hs, ht⟩⟩ := h
  · simp only [Value.slice.injEq] at hv
    obtain ⟨rfl, -, rfl⟩ := hv
    have hk0 : k = 0 := by omega
    subst hk0
    exact .inl ⟨rfl, rfl, by simp⟩
  · simp only [Value.slice.injEq] at hv
    obtain ⟨rfl, -, rfl⟩ := hv
    refine .inr ⟨_, _, rfl, ?_, fun j u hj => ?_⟩
    · rw [List.length_take, h1]
      exact Nat.min_eq_left (Nat.mul_le_mul_right _ hk)
    · have hju : xs[j]? = some u := by
        rw [List.getElem?_take] at hj
        split at hj
        · exact hj
        · cases hj
      obtain ⟨a', c', hv', -, -, hcell⟩ := row_form h0
      obtain ⟨g', hg', -, hc'⟩ := hcell j u hju
      simp only [Value.slice.injEq] at hv'
      rw [← hv'.1] at hg'
      simp only [Option.some.injEq, Addr.mk.injEq, and_true] at hg'
      rw [addr_add, hg']
      exact hc'

theorem src_drop {B : Nat} {w : World} {e : TypeId} {size n cap k g : Nat} {xs : List Value} (h : w.ownsRow B e size (.slice (some ⟨g, 0, none⟩) n cap) n xs) (hk : k ≤ n) :
    Src w (.slice (if cap = k then some ⟨g, 0, none⟩ else some ⟨g, k * size, none⟩) (n - k) (cap - k)) (n - k) size (xs.drop (k * size)) := by
  obtain ⟨a', c', hv', hle, -, hcell⟩ := row_form h
  simp only [Value.slice.injEq] at hv'
  obtain ⟨hv1, -, rfl⟩ := hv'
  have h1 := h.1
  by_cases hck : cap = k
  · rw [if_pos hck]
    refine .inr ⟨_, _, rfl, ?_, fun j u hj => ?_⟩
    · rw [List.length_drop, h1, Nat.sub_mul]
    · have : n = k := by omega
      subst this
      rw [List.drop_eq_nil_of_le (by omega)] at hj
      simp at hj
  · rw [if_neg hck]
    refine .inr ⟨_, _, rfl, ?_, fun j u hj => ?_⟩
    · rw [List.length_drop, h1, Nat.sub_mul]
    · rw [List.getElem?_drop] at hj
      obtain ⟨g', hg', -, hc'⟩ := hcell _ u hj
      rw [← hv1] at hg'
      simp only [Option.some.injEq, Addr.mk.injEq, and_true] at hg'
      have e2 : ((⟨g, k * size, none⟩ : Addr).add j) = ⟨g, k * size + j, none⟩ := by
        unfold Addr.add
        split
        · next h => rw [h]; rfl
        · rfl
      rw [e2, hg']
      exact hc'

theorem src_two (w : World) (u v : Value) (e : TypeId) : Src (w.alloc (.cells #[u, v] e)) (.slice (some ⟨w.heap.size, 0, none⟩) 1 1) 1 2 [u, v] :=
  .inr ⟨_, 1, rfl, rfl, fun j x hj => by
    match j, hj with
    | 0, hj => simp at hj; subst hj; simp [Addr.add]
    | 1, hj => simp at hj; subst hj; simp [Addr.add]⟩

theorem one_two {s x : ByteArray} : ∀ u ∈ [Value.string s, Value.string x], u.oneCell' = true := by
  intro u hu
  simp at hu
  rcases hu with rfl | rfl <;> rfl

theorem put_mid {B : Nat} {W w : World} {m : Nat} {dv lv nv tv : Value} {fs : FL} {ns : List (List UInt8)} {ts : List Int} {a : Option Addr} {cap k : Nat} {s x : ByteArray} (h : RT B W m dv lv nv tv fs ns ts) (hk : k ≤ fs.length) (hf : fs.length < 100000)
    (hu : Up W 95 2 (.slice a (k + 1 + (fs.length - k)) cap) (k + 1 + (fs.length - k)) ((fcells fs).take (k * 2) ++ [.string s, .string x] ++ (fcells fs).drop (k * 2)) w) :
    w.frozen? ⟨m, 1, none⟩ = false ∧ w.cell? ⟨m, 1, none⟩ = some lv ∧ m < w.heap.size ∧ RT B (w.setCell ⟨m, 1, none⟩ (.slice a (k + 1 + (fs.length - k)) cap)) m dv (.slice a (k + 1 + (fs.length - k)) cap) nv tv (fs.take k ++ (s.data.toList, x.data.toList) :: fs.drop k) ns ts := by
  have h2 := h.below hu.2
  have hl : (fs.take k ++ (s.data.toList, x.data.toList) :: fs.drop k).length = k + 1 + (fs.length - k) := by
    simp only [List.length_append, List.length_take, List.length_cons, List.length_drop]
    omega
  have hc : fcells (fs.take k ++ (s.data.toList, x.data.toList) :: fs.drop k) = (fcells fs).take (k * 2) ++ [.string s, .string x] ++ (fcells fs).drop (k * 2) := by
    rw [fcells_append, ← (fcells_split fs k hk).1, ← (fcells_split fs k hk).2, List.append_assoc]
    rfl
  refine ⟨h2.free 1, h2.cells.2.1, lt_of_heap h2.tbl, ?_⟩
  refine h2.setCell 1 _ _ _ _ rfl ?_ h2.names h2.times ⟨by rw [hl]; omega, h.few.2⟩
  rw [hl, hc]
  exact row_low hu.1 h.base

theorem grown_two {w w1 w4 w5 : World} {m j : Nat} {v : Value} (b1 : Below w.heap.size w w1) (b4 : Below w1.heap.size w1 w4) (g : (w4.setCell ⟨m, j, none⟩ v).grownBy w5 (some m)) : w.grownBy w5 (some m) := by
  have o := One.setCell w4 m j v
  have s4 : w.heap.size ≤ w4.heap.size := Nat.le_trans b1.size b4.size
  refine ⟨g.os.trans (b4.os.trans b1.os), g.tape.trans (b4.tape.trans b1.tape), g.output.trans (b4.output.trans b1.output), Nat.le_trans (by rw [o.size]; exact s4) g.size, fun i hi hne => ?_⟩
  have him : i ≠ m := fun e => hne (by rw [e])
  rw [g.block i (by rw [o.size]; omega) hne, o.block i him, b4.block i (Nat.lt_of_lt_of_le hi b1.size), b1.block i hi]

def PutPost (B : Nat) (w : World) (m : Nat) (dv : Value) (fs : FL) (ns : List (List UInt8)) (ts : List Int) (p x : List UInt8) (e : Ending) (w' : World) : Prop :=
  e = .returned (.tuple #[]) ∧ ∃ lv' nv' tv', RT B w' m dv lv' nv' tv' (fs.take (atN fs p) ++ (p, x) :: fs.drop (atN fs p)) (ns ++ [p]) (ts ++ [1]) ∧ w.grownBy w' (some m)

set_option maxRecDepth 100000 in
set_option maxHeartbeats 3200000 in
theorem put_some {B : Nat} {w : World} {m g cap : Nat} {dv nv tv : Value} {fs : FL} {ns : List (List UInt8)} {ts : List Int} (h : RT B w m dv (.slice (some ⟨g, 0, none⟩) fs.length cap) nv tv fs ns ts) (s x : ByteArray) (hb : atB fs s.data.toList = false) (hs : s.data.toList ∉ ns)
    (hf : fs.length < 100000) (hn : ns.length < 100000) (ht : ts.length < 100000) :
    Calls Tryd.prog 32 #[.pointer (some ⟨m, 0, none⟩), .string s, .string x] w (PutPost B w m dv fs ns ts s.data.toList x.data.toList) := by
  obtain ⟨i0, hi, hz0, hz1, hz2⟩ := info_parts Tryd.infoFile
  obtain ⟨a', c', hv', hc1, hc2, -⟩ := row_form h.files
  simp only [Value.slice.injEq] at hv'
  obtain ⟨-, -, rfl⟩ := hv'
  have HS := Lib.hid hs
  have hk := atN_le fs s.data.toList
  obtain ⟨k, hkk⟩ : ∃ k, atN fs s.data.toList = k := ⟨_, rfl⟩
  have HAT := Lib.hid (rAt_any h s)
  rw [hb, hkk] at HAT
  rw [hkk] at hk
  have H := Lib.hid h
  have hml : m < w.heap.size := lt_of_heap h.tbl
  unfold maxLen at hc2
  have hk0 : (0 : Int) ≤ (k : Int) := by omega
  have hki : (k : Int) ≤ (fs.length : Int) := by omega
  have hkc : (k : Int) ≤ (cap : Int) := by omega
  clear h hb hs
  go_enter Tryd.func32, Tryd.ntmps32
  go_wp2_with (first
    | (go_at_call 31; (with_reducible refine HAT.out.mono ?_); rintro e w1 ⟨rfl, b1⟩; have H1 := Lib.hid (H.out.below b1); obtain ⟨-, c1, -, -⟩ := H1.out.cells; have B1 := Lib.hid b1; have hm1 : m < w1.heap.size := lt_of_heap H1.out.tbl; have R0 := Lib.hid (up_empty w1 95 2); have ST := Lib.hid (src_take (H1.out.below R0.out.2).files hk); clear b1 HAT)
    | (at_builtin; refine wpList_append_ex rfl (.tmp 30) (.tmp 36) 31 rfl _ (app_up Tryd.underlying31 hi hz0 hz1 hz2 rfl (by decide) (by decide) R0.out ST.out (fun u hu => fcells_one fs u (List.mem_of_mem_take hu)) (by omega)) ?_; intro v2 w2 hu2; have U2 := Lib.hid (hu2.alloc (.cells #[.string s, .string x] 95)); have S2 := Lib.hid (src_two w2 (.string s) (.string x) 95); clear hu2)
    | (at_builtin; refine wpList_append_ex rfl (.tmp 37) (.tmp 41) 31 rfl _ (app_up Tryd.underlying31 hi hz0 hz1 hz2 rfl (by decide) (by decide) U2.out S2.out one_two (by omega)) ?_; intro v3 w3 hu3; have SD := Lib.hid (src_drop (H1.out.below hu3.2).files hk); have U3 := Lib.hid hu3; clear hu3)
    | (at_builtin; refine wpList_append_ex rfl (.tmp 42) (.tmp 43) 31 rfl _ (app_up Tryd.underlying31 hi hz0 hz1 hz2 rfl (by decide) (by decide) U3.out SD.out (fun u hu => fcells_one fs u (List.mem_of_mem_drop hu)) (by omega)) ?_; intro v4 w4 hu4; simp only [Nat.zero_add, List.nil_append] at hu4; obtain ⟨a4, cap4, rfl, -, -, -⟩ := row_form hu4.1; obtain ⟨y4, e4, hm4, h4⟩ := put_mid H1.out hk hf hu4; have H4 := Lib.hid h4; have U4 := Lib.hid hu4.2; clear hu4 h4)
    | (go_at_call 53; refine (turned_new H4.out s HS.out hn ht).mono ?_; rintro e w5 ⟨rfl, nv5, tv5, h5, g5⟩; have H5 := Lib.hid h5; have G5 := Lib.hid g5; clear h5 g5))
  all_goals go_end0
  all_goals exact ⟨rfl, _, nv5, tv5, by rw [hkk]; exact H5.out, grown_two B1.out U4.out G5.out⟩

theorem src_nil (w : World) (size : Nat) : Src w (.slice none 0 0) 0 size [] := .inl ⟨rfl, rfl, rfl⟩

set_option maxRecDepth 100000 in
set_option maxHeartbeats 3200000 in
theorem put_none {B : Nat} {w : World} {m : Nat} {dv nv tv : Value} {ns : List (List UInt8)} {ts : List Int} (h : RT B w m dv (.slice none 0 0) nv tv [] ns ts) (s x : ByteArray) (hs : s.data.toList ∉ ns)
    (hn : ns.length < 100000) (ht : ts.length < 100000) :
    Calls Tryd.prog 32 #[.pointer (some ⟨m, 0, none⟩), .string s, .string x] w (PutPost B w m dv [] ns ts s.data.toList x.data.toList) := by
  obtain ⟨i0, hi, hz0, hz1, hz2⟩ := info_parts Tryd.infoFile
  have hat : Calls Tryd.prog 31 #[.pointer (some ⟨m, 0, none⟩), .string s] w fun e w' => e = .returned (.tuple #[.int .i64 0, .bool false]) ∧ Below w.heap.size w w' := rAt_any h s
  have HAT := Lib.hid hat
  have HS := Lib.hid hs
  have H := Lib.hid h
  have hml : m < w.heap.size := lt_of_heap h.tbl
  clear h hs hat
  go_enter Tryd.func32, Tryd.ntmps32
  go_wp2_with (first
    | (go_at_call 31; (with_reducible refine HAT.out.mono ?_); rintro e w1 ⟨rfl, b1⟩; have H1 := Lib.hid (H.out.below b1); obtain ⟨-, c1, -, -⟩ := H1.out.cells; have B1 := Lib.hid b1; have hm1 : m < w1.heap.size := lt_of_heap H1.out.tbl; have R0 := Lib.hid (up_empty w1 95 2); clear b1 HAT)
    | (at_builtin; refine wpList_append_ex rfl (.tmp 30) (.tmp 36) 31 rfl _ (app_up Tryd.underlying31 hi hz0 hz1 hz2 rfl (by decide) (by decide) R0.out (src_nil _ 2) (by intro u hu; cases hu) (by omega)) ?_; intro v2 w2 hu2; have U2 := Lib.hid (hu2.alloc (.cells #[.string s, .string x] 95)); have S2 := Lib.hid (src_two w2 (.string s) (.string x) 95); clear hu2)
    | (at_builtin; refine wpList_append_ex rfl (.tmp 37) (.tmp 41) 31 rfl _ (app_up Tryd.underlying31 hi hz0 hz1 hz2 rfl (by decide) (by decide) U2.out S2.out one_two (by omega)) ?_; intro v3 w3 hu3; have U3 := Lib.hid hu3; clear hu3)
    | (at_builtin; refine wpList_append_ex rfl (.tmp 42) (.tmp 43) 31 rfl _ (app_up Tryd.underlying31 hi hz0 hz1 hz2 rfl (by decide) (by decide) U3.out (src_nil _ 2) (by intro u hu; cases hu) (by omega)) ?_; intro v4 w4 hu4; simp only [Nat.zero_add, Nat.add_zero, List.nil_append, List.append_nil] at hu4; obtain ⟨a4, cap4, rfl, -, -, -⟩ := row_form hu4.1; obtain ⟨y4, e4, hm4, h4⟩ := put_mid (fs := []) (k := 0) H1.out (Nat.le_refl _) (by decide) hu4; have H4 := Lib.hid h4; have U4 := Lib.hid hu4.2; clear hu4 h4)
    | (go_at_call 53; refine (turned_new H4.out s HS.out hn ht).mono ?_; rintro e w5 ⟨rfl, nv5, tv5, h5, g5⟩; have H5 := Lib.hid h5; have G5 := Lib.hid g5; clear h5 g5))
  all_goals go_end0
  all_goals exact ⟨rfl, _, nv5, tv5, H5.out, grown_two B1.out U4.out G5.out⟩

theorem put_new {B : Nat} {w : World} {m : Nat} {dv lv nv tv : Value} {fs : FL} {ns : List (List UInt8)} {ts : List Int} (h : RT B w m dv lv nv tv fs ns ts) (s x : ByteArray) (hb : atB fs s.data.toList = false) (hs : s.data.toList ∉ ns)
    (hf : fs.length < 100000) (hn : ns.length < 100000) (ht : ts.length < 100000) :
    Calls Tryd.prog 32 #[.pointer (some ⟨m, 0, none⟩), .string s, .string x] w (PutPost B w m dv fs ns ts s.data.toList x.data.toList) := by
  obtain ⟨-, ⟨hv, hl0⟩ | ⟨g, cap, cur, hv, -⟩⟩ := h.files
  · subst hv
    obtain rfl : fs = [] := List.eq_nil_of_length_eq_zero hl0
    exact put_none h s x hs hn ht
  · subst hv
    exact put_some h s x hb hs hf hn ht

end Go.Proofs.YtfjdfdpelilelaaDoor
