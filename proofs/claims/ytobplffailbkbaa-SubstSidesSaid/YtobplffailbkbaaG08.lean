/-
  Texts of the proof, put together: LxT3, LxE, LxStep, RBack, Back.
-/
import Derived.Test.YtobplffailbkbaaG07
import Derived.Test.YtobplffailbkbaaG06
import Derived.Laws.BytesArg

/-
  take of the project, walked.
-/
namespace Go.Proofs.Ytobplffailbkbaa
open Go.RowKit

/-- s[i:j] of a string. -/
theorem slice_lh (s : ByteArray) (l h : Nat) (h1 : l ≤ h) (h2 : h ≤ s.size) (w : World) : (Instr.slice 9 (.string s) (some (.int .i64 (l : Int))) (some (.int .i64 (h : Int))) none).run Try.prog w = .ok (.string (s.extract l h)) w := by
  have a1 : (l : Int) ≤ (h : Int) := by omega
  have a2 : (h : Int) ≤ (s.size : Int) := by omega
  have a3 : (0 : Int) ≤ (l : Int) := by omega
  have a4 : (0 : Int) ≤ (h : Int) := by omega
  simp [Instr.slice, run_underlying Try.underlying9, Instr.sliceBounds, run_sliceBound, *]

/-- What take's great statement loads. -/
def TakeS (g : Nat) (ch : ByteArray) (i : Nat) (sp : Bool) (tv : Value) (w : World) : Prop := w.cell? ⟨g, 3, none⟩ = some (.string ch) ∧ w.cell? ⟨g, 4, none⟩ = some (.int .i64 (i : Int)) ∧ w.cell? ⟨g, 8, none⟩ = some (.bool sp) ∧ w.cell? ⟨g, 9, none⟩ = some tv
def WCis (c : WC) (ch : ByteArray) (i : Nat) (sp : Bool) (tv : Value) : Prop := c.ch = ch ∧ c.i = i ∧ c.sp = sp ∧ c.tv = tv
theorem takeS_of {g : Nat} {c : WC} {ch : ByteArray} {i : Nat} {sp : Bool} {tv : Value} {w : World} (h : WAt g c w) (hv : WCis c ch i sp tv) : TakeS g ch i sp tv w := by
  obtain ⟨rfl, rfl, rfl, rfl⟩ := hv
  exact ⟨h.k3, h.k4, h.k8, h.k9⟩

theorem ext_text (s : ByteArray) (a b : Nat) : s.extract a b = ⟨((s.data.toList.drop a).take (b - a)).toArray⟩ := by
  have h := ext_data s a b
  obtain ⟨d⟩ := s
  rw [← h]

theorem take_fin {E : Env} {i st bg r b n4 cap : Nat} {c2 : WC} {B2 : Nat} {P2 : List (Value × Ln)} {a2 : Acc} {w4 : World} {t : Tk} (h : PushT E.W E.g E.L c2 B2 P2 { a2 with toks := a2.toks ++ [t] } b n4 cap w4) (hc : c2.F = E.F ∧ c2.ch = E.ch ∧ c2.sz = E.sz ∧ c2.i = i ∧ c2.st = st ∧ c2.bg = bg) (hir : i ≤ r) {a' : Acc} (ha : a' = { a2 with sp := false, toks := a2.toks ++ [t] }) :
    Was E r st bg a' (((w4.setCell ⟨E.g, 9, none⟩ (.slice (some ⟨b, 0, none⟩) n4 cap)).setCell ⟨E.g, 8, none⟩ (.bool false)).setCell ⟨E.g, 4, none⟩ (.int .i64 (r : Int))) := by
  obtain ⟨e1, e2, e3, e4, e5, e6⟩ := hc
  obtain ⟨-, hb⟩ := h
  have s1 := (Step.refl hb.blk).set 8 (.bool false) { c2 with tv := .slice (some ⟨b, 0, none⟩) n4 cap, sp := false } rfl
  have s2 := s1.set 4 (.int .i64 (r : Int)) { c2 with tv := .slice (some ⟨b, 0, none⟩) n4 cap, sp := false, i := r } rfl
  have hi : c2.i ≤ r := by rw [e4]; exact hir
  exact ⟨{ c2 with tv := .slice (some ⟨b, 0, none⟩) n4 cap, sp := false, i := r }, B2, P2, e1, e2, e3, rfl, e5, e6, by
    rw [ha]
    exact hb.step s2 ⟨rfl, rfl, rfl, rfl, rfl, rfl⟩ ⟨rfl, rfl, rfl⟩ hb.fr rfl (hb.un0.mono hi) (hb.un1.mono hi)⟩

theorem token_was {E : Env} {i st bg : Nat} {a : Acc} {w : World} (h : Was E i st bg a w) (hL : E.L.length ≤ 1000000) (hN : Nl (bytesOf E.L)) (hi : i < E.L.length) (h10 : (bytesOf E.L).getD i 0 ≠ 10) {k r : Nat} (hk : (tok ((bytesOf E.L).drop i)).1 = k) (hr : i + (tok ((bytesOf E.L).drop i)).2 = r) :
    Calls Try.prog 58 #[.pointer (some ⟨E.g, 0, none⟩)] w fun e w' => e = .returned (.tuple #[.int .i64 (k : Int), .int .i64 (r : Int)]) ∧ Was E i st bg a w' := by
  obtain ⟨c, B1, P, e1, e2, e3, e4, e5, e6, hb⟩ := h
  have hsz : c.ch.size = E.L.length := by rw [← len_byte, hb.chars, bytesOf_len]
  have ht := token_any hb.blk (by omega) (by rw [hb.chars]; exact hN) (by omega) (by rw [hb.chars, e4]; exact h10) hb.un0 hb.un1
  rw [hb.chars, e4, hk, hr] at ht
  refine ht.mono ?_
  rintro e w' ⟨he, u0, u1, hs, h0, h1⟩
  exact ⟨he, { c with u0 := u0, u1 := u1 }, B1, P, e1, e2, e3, e4, e5, e6, hb.step hs ⟨rfl, rfl, rfl, rfl, rfl, rfl⟩ ⟨rfl, rfl, rfl⟩ hb.fr hb.sp h0 h1⟩

theorem Was.drewN {E : Env} {i st bg : Nat} {a : Acc} {w : World} (h : Was E i st bg a w) (n : Nat) : Was E i st bg a (w.drewN n) := by
  obtain ⟨c, B1, P, e1, e2, e3, e4, e5, e6, hb⟩ := h
  exact ⟨c, B1, P, e1, e2, e3, e4, e5, e6, hb.drewN n⟩
theorem Was.size {E : Env} {i st bg : Nat} {a : Acc} {w : World} (h : Was E i st bg a w) : E.ch.size = E.L.length ∧ E.ch.data.toList = bytesOf E.L := by
  obtain ⟨c, B1, P, e1, e2, e3, e4, e5, e6, hb⟩ := h
  rw [← e2]
  exact ⟨by rw [← len_byte, hb.chars, bytesOf_len], hb.chars⟩
theorem Was.k3 {E : Env} {i st bg : Nat} {a : Acc} {w : World} (h : Was E i st bg a w) : w.cell? ⟨E.g, 3, none⟩ = some (.string E.ch) := by
  obtain ⟨c, B1, P, e1, e2, e3, e4, e5, e6, hb⟩ := h
  rw [← e2]
  exact hb.blk.k3
theorem Was.k4 {E : Env} {i st bg : Nat} {a : Acc} {w : World} (h : Was E i st bg a w) : w.cell? ⟨E.g, 4, none⟩ = some (.int .i64 (i : Int)) := by
  obtain ⟨c, B1, P, e1, e2, e3, e4, e5, e6, hb⟩ := h
  rw [← e4]
  exact hb.blk.k4
/-- All of it, opened for the great statement. -/
theorem Was.open {E : Env} {i st bg : Nat} {a : Acc} {w : World} (h : Was E i st bg a w) : ∃ c B1 P ta cap, Big E.W E.g E.L c B1 P a w ∧ (c.F = E.F ∧ c.ch = E.ch ∧ c.sz = E.sz ∧ c.i = i ∧ c.st = st ∧ c.bg = bg) ∧ WCis c E.ch i a.sp (.slice ta a.toks.length cap) := by
  obtain ⟨c, B1, P, e1, e2, e3, e4, e5, e6, hb⟩ := h
  obtain ⟨ta, cap, hv, -⟩ := row_form hb.toks
  exact ⟨c, B1, P, ta, cap, hb, ⟨e1, e2, e3, e4, e5, e6⟩, e2, e4, hb.sp, hv⟩

end Go.Proofs.Ytobplffailbkbaa

/-
  pass and endLine of the project, walked.
-/
namespace Go.Proofs.Ytobplffailbkbaa
open Go.RowKit

theorem Was.cells {E : Env} {i st bg : Nat} {a : Acc} {w : World} (h : Was E i st bg a w) : ∃ c B1 P, (c.F = E.F ∧ c.ch = E.ch ∧ c.sz = E.sz ∧ c.i = i ∧ c.st = st ∧ c.bg = bg) ∧ Big E.W E.g E.L c B1 P a w := by
  obtain ⟨c, B1, P, e1, e2, e3, e4, e5, e6, hb⟩ := h
  exact ⟨c, B1, P, ⟨e1, e2, e3, e4, e5, e6⟩, hb⟩

/-- Whatever turns the place, the state, where it began, and the space. -/
theorem Was.turn {E : Env} {i st bg : Nat} {a : Acc} {w w' : World} {c : WC} {B1 : Nat} {P : List (Value × Ln)} (he : c.F = E.F ∧ c.ch = E.ch ∧ c.sz = E.sz ∧ c.i = i ∧ c.st = st ∧ c.bg = bg) (hb : Big E.W E.g E.L c B1 P a w) {i' st' bg' : Nat} {sp' : Bool} {a' : Acc}
    (hs : Step E.g c { c with i := i', st := st', bg := bg', sp := sp' } w w') (hi : i ≤ i') (ha : a' = { a with sp := sp' }) : Was E i' st' bg' a' w' := by
  obtain ⟨e1, e2, e3, e4, e5, e6⟩ := he
  subst ha
  have hi2 : c.i ≤ i' := by rw [e4]; exact hi
  exact ⟨{ c with i := i', st := st', bg := bg', sp := sp' }, B1, P, e1, e2, e3, rfl, rfl, rfl, hb.step hs ⟨rfl, rfl, rfl, rfl, rfl, rfl⟩ ⟨rfl, rfl, rfl⟩ hb.fr rfl (hb.un0.mono hi2) (hb.un1.mono hi2)⟩

/-- What endLine's great statement loads. -/
def EndS (g : Nat) (fr : Nat) (tv lv : Value) (w : World) : Prop := w.cell? ⟨g, 7, none⟩ = some (.int .i64 (fr : Int)) ∧ w.cell? ⟨g, 9, none⟩ = some tv ∧ w.cell? ⟨g, 10, none⟩ = some lv
def ECis (c : WC) (fr : Nat) (tv lv : Value) : Prop := c.fr = fr ∧ c.tv = tv ∧ c.lv = lv
theorem endS_of {g : Nat} {c : WC} {fr : Nat} {tv lv : Value} {w : World} (h : WAt g c w) (hv : ECis c fr tv lv) : EndS g fr tv lv w := by
  obtain ⟨rfl, rfl, rfl⟩ := hv
  exact ⟨h.k7, h.k9, h.k10⟩

theorem end_fin {E : Env} {i st bg to b n4 cap : Nat} {o : Bool} {c2 : WC} {a : Acc} {w4 : World} (h : PushL E.W E.g E.L c2 (endA a to o) to b n4 cap w4) (hc : c2.F = E.F ∧ c2.ch = E.ch ∧ c2.sz = E.sz ∧ c2.i = i ∧ c2.st = st ∧ c2.bg = bg) :
    Was E i st bg (endA a to o) ((((w4.setCell ⟨E.g, 10, none⟩ (.slice (some ⟨b, 0, none⟩) n4 cap)).setCell ⟨E.g, 7, none⟩ (.int .i64 (to : Int))).setCell ⟨E.g, 8, none⟩ (.bool false)).setCell ⟨E.g, 9, none⟩ (.slice none 0 0)) := by
  obtain ⟨e1, e2, e3, e4, e5, e6⟩ := hc
  obtain ⟨-, B1, P, hb⟩ := h
  exact ⟨{ c2 with lv := .slice (some ⟨b, 0, none⟩) n4 cap, fr := to, sp := false, tv := .slice none 0 0 }, B1, P, e1, e2, e3, e4, e5, e6, hb⟩

end Go.Proofs.Ytobplffailbkbaa

/-
  step of the project, walked: state by state.
-/
namespace Go.Proofs.Ytobplffailbkbaa
open Go.RowKit

theorem Was.k5 {E : Env} {i st bg : Nat} {a : Acc} {w : World} (h : Was E i st bg a w) : w.cell? ⟨E.g, 5, none⟩ = some (.int .i64 (st : Int)) := by
  obtain ⟨c, B1, P, e1, e2, e3, e4, e5, e6, hb⟩ := h
  rw [← e5]
  exact hb.blk.k5
theorem Was.k6 {E : Env} {i st bg : Nat} {a : Acc} {w : World} (h : Was E i st bg a w) : w.cell? ⟨E.g, 6, none⟩ = some (.int .i64 (bg : Int)) := by
  obtain ⟨c, B1, P, e1, e2, e3, e4, e5, e6, hb⟩ := h
  rw [← e6]
  exact hb.blk.k6
theorem Was.free {E : Env} {i st bg : Nat} {a : Acc} {w : World} (h : Was E i st bg a w) (k : Nat) : w.frozen? ⟨E.g, k, none⟩ = false := by
  obtain ⟨c, B1, P, e1, e2, e3, e4, e5, e6, hb⟩ := h
  exact hb.blk.free k
theorem Was.setAt {E : Env} {i st bg : Nat} {a : Acc} {w : World} (h : Was E i st bg a w) (j : Nat) (hj : i ≤ j) : Was E j st bg a (w.setCell ⟨E.g, 4, none⟩ (.int .i64 (j : Int))) := by
  obtain ⟨c, B1, P, ⟨e1, e2, e3, e4, e5, e6⟩, hb⟩ := h.cells
  have hi : c.i ≤ j := by omega
  exact ⟨{ c with i := j }, B1, P, e1, e2, e3, rfl, e5, e6, hb.step ((Step.refl hb.blk).set 4 (.int .i64 (j : Int)) _ rfl) ⟨rfl, rfl, rfl, rfl, rfl, rfl⟩ ⟨rfl, rfl, rfl⟩ hb.fr hb.sp (hb.un0.mono hi) (hb.un1.mono hi)⟩
theorem Was.setSt {E : Env} {i st bg : Nat} {a : Acc} {w : World} (h : Was E i st bg a w) (s : Nat) : Was E i s bg a (w.setCell ⟨E.g, 5, none⟩ (.int .i64 (s : Int))) := by
  obtain ⟨c, B1, P, ⟨e1, e2, e3, e4, e5, e6⟩, hb⟩ := h.cells
  exact ⟨{ c with st := s }, B1, P, e1, e2, e3, e4, rfl, e6, hb.step ((Step.refl hb.blk).set 5 (.int .i64 (s : Int)) _ rfl) ⟨rfl, rfl, rfl, rfl, rfl, rfl⟩ ⟨rfl, rfl, rfl⟩ hb.fr hb.sp hb.un0 hb.un1⟩
theorem Was.setBg {E : Env} {i st bg : Nat} {a : Acc} {w : World} (h : Was E i st bg a w) (s : Nat) : Was E i st s a (w.setCell ⟨E.g, 6, none⟩ (.int .i64 (s : Int))) := by
  obtain ⟨c, B1, P, ⟨e1, e2, e3, e4, e5, e6⟩, hb⟩ := h.cells
  exact ⟨{ c with bg := s }, B1, P, e1, e2, e3, e4, e5, rfl, hb.step ((Step.refl hb.blk).set 6 (.int .i64 (s : Int)) _ rfl) ⟨rfl, rfl, rfl, rfl, rfl, rfl⟩ ⟨rfl, rfl, rfl⟩ hb.fr hb.sp hb.un0 hb.un1⟩
theorem Was.drew {E : Env} {i st bg : Nat} {a : Acc} {w : World} (h : Was E i st bg a w) : Was E i st bg a w.drew := by
  obtain ⟨c, B1, P, e1, e2, e3, e4, e5, e6, hb⟩ := h
  exact ⟨c, B1, P, e1, e2, e3, e4, e5, e6, hb.drew⟩

theorem begins_is {s : ByteArray} (hs : s.size ≤ 1000000) (h0 : 0 < s.size) {n : Nat} (hn : begN s.data.toList = n) (W : World) : Calls Try.prog 57 #[.string s] W (NatPost n W) := hn ▸ begins_any s W hs h0

/-- The rest, from a place on. -/
theorem rest_of {E : Env} {i st bg : Nat} {a : Acc} {w : World} (h : Was E i st bg a w) : ∃ R : ByteArray, E.ch.extract i E.ch.size = R ∧ R.size = E.L.length - i ∧ R.data.toList = (bytesOf E.L).drop i := by
  obtain ⟨h1, h2⟩ := h.size
  exact ⟨_, rfl, by rw [ext_size, h1], by rw [ext_end, h2]⟩

end Go.Proofs.Ytobplffailbkbaa

/-
  The document's own Back, in memory; a row of bytes as a text.
-/
namespace Go.Proofs.Ytobplffailbkbaa
open Go.RowKit

def bcells (bs : List UInt8) : List Value := bs.map fun c => Value.int .u8 (c.toNat : Int)
theorem bcells_len (bs : List UInt8) : (bcells bs).length = bs.length := by simp [bcells]

theorem Try.infoByte : (Try.prog.info? 5).map (fun i => (i.zero, i.size, i.bytes)) = some (some (.int .u8 0), 1, 1) := by kernel_rfl

def BRow (W : World) (v : Value) (bs : List UInt8) (w : World) : Prop := Up W 5 1 v bs.length (bcells bs) w

theorem byte_one {x : Int} : ∀ u ∈ [Value.int .u8 x], u.oneCell' = true := by
  intro u hu
  simp only [List.mem_cons, List.not_mem_nil, or_false] at hu
  subst hu
  rfl

theorem BRow.push {W : World} {v : Value} {bs : List UInt8} {w : World} {x : Int} (c : UInt8) (h : Up W 5 1 v (bs.length + 1) (bcells bs ++ [.int .u8 x]) w) (hx : x = (c.toNat : Int)) : BRow W v (bs ++ [c]) w := by
  unfold BRow
  rw [List.length_append]
  have e : bcells (bs ++ [c]) = bcells bs ++ [.int .u8 x] := by rw [hx]; simp [bcells]
  rw [e]
  exact h

set_option maxRecDepth 100000 in
theorem brow_text {W : World} {a : Option Addr} {cap : Nat} {bs : List UInt8} {w : World} (h : BRow W (.slice a bs.length cap) bs w) : (convert 35 9 (.slice a bs.length cap)).run Try.prog w = .ok (.string ⟨bs.toArray⟩) w := by
  obtain ⟨a', cap', hv, -, -, hcell⟩ := row_form h.1
  simp only [Value.slice.injEq] at hv
  obtain ⟨rfl, -, rfl⟩ := hv
  cases hb : bs with
  | nil =>
    subst hb
    obtain ⟨-, ⟨hv, -⟩ | ⟨g, c', cur, hv, -⟩⟩ := h.1
    · simp only [Value.slice.injEq] at hv
      obtain ⟨rfl, -, rfl⟩ := hv
      exact run_convert_bytes_nil (P := Try.prog) w 35 5 Try.underlying35 Try.underlying5 0 0 9 Try.underlying9
    · simp only [Value.slice.injEq] at hv
      obtain ⟨rfl, -, rfl⟩ := hv
      exact run_convert_bytes_arg (P := Try.prog) w 35 5 Try.underlying35 Try.underlying5 g 0 0 cap [] rfl (fun i hi => by omega) 9 Try.underlying9
  | cons b0 bt =>
    have h0 : (bcells bs)[0]? = some (.int .u8 (b0.toNat : Int)) := by rw [hb]; rfl
    obtain ⟨g, rfl, -, -⟩ := hcell 0 _ h0
    have e := run_convert_bytes_arg (P := Try.prog) w 35 5 Try.underlying35 Try.underlying5 g 0 bs.length cap (bs.map fun c => (c.toNat : Int)) (by simp) (fun i hi => by
      have hi' : (bcells bs)[i]? = some (.int .u8 ((bs[i]).toNat : Int)) := by simp [bcells, hi]
      obtain ⟨g', hg', -, hc⟩ := hcell i _ hi'
      simp only [Option.some.injEq, Addr.mk.injEq, and_true] at hg'
      subst hg'
      rw [Nat.zero_add, hc]
      simp [List.getD, hi]) 9 Try.underlying9
    rw [← hb, e]
    have : strOfNums (bs.map fun c => (c.toNat : Int)) = ⟨bs.toArray⟩ := by
      unfold strOfNums
      rw [List.map_map]
      congr 2
      have : ((fun n : Int => UInt8.ofNat n.toNat) ∘ fun c : UInt8 => (c.toNat : Int)) = id := by
        funext c
        simp
      rw [this, List.map_id]
    rw [this]

/-- What stays of characters from a place on. -/
def kept (a b : Int) (C : List Rn) (k : Nat) : List UInt8 := ((C.drop k).filter (within a b)).map Rn.c
theorem kept_end {a b : Int} {C : List Rn} {k : Nat} (h : C.length ≤ k) : kept a b C k = [] := by
  unfold kept
  rw [List.drop_eq_nil_of_le h]
  rfl
theorem kept_in {a b : Int} {C : List Rn} {k : Nat} {r : Rn} (h : C[k]? = some r) (hw : within a b r = true) : kept a b C k = r.c :: kept a b C (k + 1) := by
  unfold kept
  rw [drop_get h, List.filter_cons, hw]
  rfl
theorem kept_out {a b : Int} {C : List Rn} {k : Nat} {r : Rn} (h : C[k]? = some r) (hw : within a b r = false) : kept a b C k = kept a b C (k + 1) := by
  unfold kept
  rw [drop_get h, List.filter_cons, hw]
  rfl

def RBackRel (W : World) (C : List Rn) (a b : Int) (o i : Value) (w : World) : Prop :=
  ∃ (k : Nat) (bs : List UInt8) (ad : Option Addr) (n cap : Nat), i = .int .i64 (k : Int) ∧ k ≤ C.length ∧ bs.length ≤ k ∧ o = .slice ad n cap ∧ n = bs.length ∧ bs ++ kept a b C k = kept a b C 0 ∧ BRow W o bs w

def TextPost (W : World) (l : List UInt8) (e : Ending) (w' : World) : Prop := e = .returned (.string ⟨l.toArray⟩) ∧ Below W.heap.size W w'

theorem rback_in {W : World} {C : List Rn} {a b : Int} {k : Nat} {bs : List UInt8} {w : World} {ad : Option Addr} {cap : Nat} {r : Rn} {i : Int} (hi : i = ((k + 1 : Nat) : Int)) (hr : C[k]? = some r) (hk : k < C.length) (hLk : bs.length ≤ k) (hw : within a b r = true) (hL : bs ++ kept a b C k = kept a b C 0) (hU : BRow W (.slice ad (bs.length + 1) cap) (bs ++ [r.c]) w) :
    RBackRel W C a b (.slice ad (bs.length + 1) cap) (.int .i64 i) w := by
  refine ⟨k + 1, bs ++ [r.c], ad, bs.length + 1, cap, by rw [hi], hk, by simp; omega, rfl, by simp, ?_, hU⟩
  rw [← hL, kept_in hr hw, List.append_assoc]
  rfl
theorem rback_out {W : World} {C : List Rn} {a b : Int} {k : Nat} {bs : List UInt8} {w : World} {ad : Option Addr} {cap : Nat} {r : Rn} {i : Int} (hi : i = ((k + 1 : Nat) : Int)) (hr : C[k]? = some r) (hk : k < C.length) (hLk : bs.length ≤ k) (hw : within a b r = false) (hL : bs ++ kept a b C k = kept a b C 0) (hU : BRow W (.slice ad bs.length cap) bs w) :
    RBackRel W C a b (.slice ad bs.length cap) (.int .i64 i) w :=
  ⟨k + 1, bs, ad, bs.length, cap, by rw [hi], hk, by omega, rfl, rfl, by rw [← kept_out hr hw]; exact hL, hU⟩

theorem within_in {a b : Int} {r : Rn} (h1 : a ≤ (r.f : Int)) (h2 : (r.t : Int) ≤ b) : within a b r = true := by simp [within, h1, h2]
theorem within_a {a b : Int} {r : Rn} (h1 : ¬ a ≤ (r.f : Int)) : within a b r = false := by simp [within, h1]
theorem within_b {a b : Int} {r : Rn} (h1 : ¬ (r.t : Int) ≤ b) : within a b r = false := by simp [within, h1]

end Go.Proofs.Ytobplffailbkbaa

/-
  Back of the project, walked: it begins a little ahead of what is asked for, and ends at what is behind it.
-/
namespace Go.Proofs.Ytobplffailbkbaa
open Go.RowKit

theorem src_one2 (w : World) (o : Obj) (u : Value) (e : TypeId) : Src ((w.alloc o).alloc (.cells #[u] e)) (.slice (some ⟨w.heap.size + 1, 0, none⟩) 1 1) 1 1 [u] := by
  have h := src_one (w.alloc o) u e
  rw [show (w.alloc o).heap.size = w.heap.size + 1 from by simp] at h
  exact h

def BRel (W : World) (l : List UInt8) (a b : Int) (o i : Value) (w : World) : Prop :=
  ∃ (k : Nat) (bs : List UInt8) (ad : Option Addr) (n cap : Nat), i = .int .i64 (k : Int) ∧ bs.length ≤ k ∧ bs.length ≤ l.length ∧ (k : Int) ≤ 9223372036854775807 ∧ o = .slice ad n cap ∧ n = bs.length ∧ bs ++ bk l a b k = backL l a b ∧ BRow W o bs w

theorem brel_in {W : World} {l : List UInt8} {a b : Int} {k : Nat} {bs : List UInt8} {w : World} {ad : Option Addr} {cap : Nat} {r : Rn} (hl : l.length ≤ 100000) (hk : k < l.length) (hLk : bs.length ≤ k) (ho : tk l k = (r, true)) (hw : within a b r = true) (hL : bs ++ bk l a b k = backL l a b) (hU : BRow W (.slice ad (bs.length + 1) cap) (bs ++ [r.c]) w) :
    BRel W l a b (.slice ad (bs.length + 1) cap) (.int .i64 (r.t : Int)) w := by
  have h1 : k < r.t ∧ r.t ≤ k + 4 ∧ (k < l.length → r.t ≤ l.length) := by
    have := tk_t l k
    rw [ho] at this
    exact this
  have h2 := bk_take (a := a) (b := b) hk (by rw [ho]) (by rw [ho]; exact hw)
  rw [ho] at h2
  refine ⟨r.t, bs ++ [r.c], ad, bs.length + 1, cap, rfl, by simp; omega, by simp; omega, by omega, rfl, by simp, ?_, hU⟩
  rw [← hL, h2, List.append_assoc]
  rfl
theorem brel_next {W : World} {l : List UInt8} {a b : Int} {k : Nat} {bs : List UInt8} {w : World} {ad : Option Addr} {cap : Nat} {r : Rn} {st : Bool} (hl : l.length ≤ 100000) (hk : k < l.length) (hLk : bs.length ≤ k) (ho : tk l k = (r, st)) (hw : st = false ∨ within a b r = false) (hL : bs ++ bk l a b k = backL l a b) (hU : BRow W (.slice ad bs.length cap) bs w) :
    BRel W l a b (.slice ad bs.length cap) (.int .i64 (r.t : Int)) w := by
  have h1 : k < r.t ∧ r.t ≤ k + 4 ∧ (k < l.length → r.t ≤ l.length) := by
    have := tk_t l k
    rw [ho] at this
    exact this
  have h2 : bk l a b k = bk l a b r.t := by
    have e : (tk l k).1.t = r.t := by rw [ho]
    rw [← e]
    rcases hw with h | h
    · exact bk_skip hk (by rw [ho]; exact h)
    · exact bk_out hk (by rw [ho]; exact h)
  exact ⟨r.t, bs, ad, bs.length, cap, rfl, by omega, by omega, by omega, rfl, rfl, by rw [← h2]; exact hL, hU⟩

theorem back_past {l : List UInt8} {a b : Int} {k : Nat} {bs : List UInt8} {r : Rn} {st : Bool} (hk : k < l.length) (ho : tk l k = (r, st)) (hb : b < (r.t : Int)) (hL : bs ++ bk l a b k = backL l a b) : bs = backL l a b := by
  rw [bk_past hk (by rw [ho]; exact hb), List.append_nil] at hL
  exact hL

theorem BRow.over {W w w' : World} {v : Value} {bs : List UInt8} (h : BRow W v bs w) (b : Below w.heap.size w w') : BRow W v bs w' := Up.over h b
theorem BRow.alloc {W w : World} {v : Value} {bs : List UInt8} (h : BRow W v bs w) (o : Obj) : BRow W v bs (w.alloc o) := Up.alloc h o

end Go.Proofs.Ytobplffailbkbaa
