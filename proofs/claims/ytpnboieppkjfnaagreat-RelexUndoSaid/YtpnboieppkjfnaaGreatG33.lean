/-
  Texts of the proof, put together: Flat, ReMem, ReF, ReA.
-/
import Derived.Test.YtpnboieppkjfnaaGreatG27
import Derived.Test.YtpnboieppkjfnaaGreatG32
import Derived.Test.YtpnboieppkjfnaaGreatG05
import Derived.Test.YtpnboieppkjfnaaGreatG07
import Derived.Test.YtpnboieppkjfnaaGreatG10
import Derived.Test.YtpnboieppkjfnaaGreatG26
import Derived.Lib.AppendZeros
import Derived.WalkSpells
import Derived.Lib.SliceRun
import Derived.StillTailTactics
import Derived.IntWalk

/-
  flat of the law, walked.
-/
namespace Go.Proofs.YtpnboieppkjfnaaGreat
open Go.RowKit

theorem flat_ex {W w : World} {v sv : Value} {n : Nat} {xs : List Value} {ty : TypeId} {p : Value × Ln} (h : Up W 89 4 v n xs w) (hs : Src w sv 1 4 (lcell p)) (hp : p.1.oneCell' = true) (hn : n ≤ 500000) :
    ∃ b n' cap w', (Builtin.append_ #[69, 69] ty #[v, sv]).run Tryz.prog w = .ok (.slice (some ⟨b, 0, none⟩) n' cap) w' ∧ n' = n + 1 ∧ Up W 89 4 (.slice (some ⟨b, 0, none⟩) n' cap) n' (xs ++ lcell p) w' := by
  obtain ⟨i0, hi, hz0, hz1, hz2⟩ := info_parts Tryz.infoRLine
  obtain ⟨v', w', hr, h2⟩ := app_up (ty := ty) Tryz.underlying69 hi hz0 hz1 hz2 rfl (by decide) (by decide) h hs (by intro u hu; simp only [lcell, List.mem_cons, List.not_mem_nil, or_false] at hu; rcases hu with rfl | rfl | rfl | rfl <;> first | exact hp | rfl) (by omega)
  obtain ⟨b, cap, hv⟩ := append_form h2.1 (by omega)
  subst hv
  exact ⟨b, _, cap, w', hr, rfl, h2⟩

theorem Up.drew {W w : World} {e : TypeId} {size : Nat} {v : Value} {n : Nat} {xs : List Value} (h : Up W e size v n xs w) : Up W e size v n xs w.drew := Up.over h (Below.refl _ _).drew

def FlRel (w : World) (P : List (Value × Ln)) (o i : Value) (wr : World) : Prop :=
  ∃ (k : Nat) (ob : Option Addr) (on oc : Nat), i = .int .i64 (k : Int) ∧ k ≤ P.length ∧ o = .slice ob on oc ∧ on = k ∧ Up w 89 4 (.slice ob on oc) on (lcells (P.take k)) wr
def FlPost (w : World) (P : List (Value × Ln)) (e : Ending) (w' : World) : Prop :=
  ∃ (a : Option Addr) (n cap : Nat), e = .returned (.slice a n cap) ∧ n = P.length ∧ Up w 89 4 (.slice a n cap) n (lcells P) w'

theorem take_get {P : List (Value × Ln)} {k : Nat} {p : Value × Ln} (h : P[k]? = some p) : P.take (k + 1) = P.take k ++ [p] := by
  rw [List.take_add_one, h]
  rfl

theorem fl_on {w wr : World} {P : List (Value × Ln)} {k b n cap : Nat} {p : Value × Ln} {i : Int} (hp : P[k]? = some p) (hn : n = k + 1) (h : Up w 89 4 (.slice (some ⟨b, 0, none⟩) n cap) n (lcells (P.take k) ++ lcell p) wr) (hi : i = ((k + 1 : Nat) : Int)) : FlRel w P (.slice (some ⟨b, 0, none⟩) n cap) (.int .i64 i) wr := by
  subst hi
  exact ⟨k + 1, _, n, cap, rfl, (List.getElem?_eq_some_iff.1 hp).1, rfl, hn, by rw [take_get hp, lcells_snoc]; exact h⟩

set_option maxRecDepth 100000 in
set_option maxHeartbeats 6400000 in
theorem flat_any {W w : World} {v : Value} {P : List (Value × Ln)} (h : Up W 87 4 v P.length (lcells P) w) (hP : ∀ p ∈ P, ∃ ta tn tc, p.1 = .slice ta tn tc) (hl : P.length ≤ 500000) : Calls Tryz.prog 21 #[v] w (FlPost w P) := by
  obtain ⟨a, cap, rfl, hc1, hc2, hcell⟩ := row_form h.1
  have HC := Lib.hid hcell
  have HP := Lib.hid hP
  unfold maxLen at hc2
  have HS0 : Hid (FlRel w P (.slice none 0 0) (.int .i64 0) w) := Lib.hid ⟨0, none, 0, 0, rfl, Nat.zero_le _, rfl, rfl, up_nil w _ 4⟩
  clear h hcell hP
  go_enter Tryz.func21, Tryz.ntmps21
  go_wp2
  go_loopw [3, 4] (fun o i wr => FlRel w P o i wr) (fun _ i _ => P.length - (intOf i).toNat)
  case atStart => exact HS0.out
  case round =>
    obtain ⟨k, ob, on, oc, rfl, hk, rfl, hon, hU⟩ := hrel
    have HU := Lib.hid hU
    have HON := Lib.hid hon
    have hon2 : on ≤ 500000 := by omega
    clear hU hon
    by_cases hlt : k < P.length
    · obtain ⟨⟨pv, ln⟩, hp⟩ : ∃ p, P[k]? = some p := ⟨_, List.getElem?_eq_getElem hlt⟩
      obtain ⟨ta, tn, tc, hpv⟩ := HP.out _ (List.mem_of_getElem? hp)
      simp only at hpv
      subst hpv
      have hg := fun j (hj : j < 4) => flat_get (f := lcell) (n := 4) (fun _ => rfl) P k _ hp j hj
      obtain ⟨g, hga, hgl, d0⟩ := HC.out (k * 4 + 0) _ ((hg 0 (by omega)).trans rfl)
      obtain ⟨g1, hga1, -, d1⟩ := HC.out (k * 4 + 1) _ ((hg 1 (by omega)).trans rfl)
      obtain ⟨g2, hga2, -, d2⟩ := HC.out (k * 4 + 2) _ ((hg 2 (by omega)).trans rfl)
      obtain ⟨g3, hga3, -, d3⟩ := HC.out (k * 4 + 3) _ ((hg 3 (by omega)).trans rfl)
      subst hga
      simp only [Option.some.injEq, Addr.mk.injEq, and_true] at hga1 hga2 hga3
      subst hga1 hga2 hga3
      have e0 : wr.cell? ⟨g, k * 4, none⟩ = some (.slice ta tn tc) := bcell HU.out.2 d0 hgl
      have e1 : wr.cell? ⟨g, k * 4 + 1, none⟩ = some (.int .i64 (ln.f : Int)) := bcell HU.out.2 d1 hgl
      have e2 : wr.cell? ⟨g, k * 4 + 2, none⟩ = some (.int .i64 (ln.t : Int)) := bcell HU.out.2 d2 hgl
      have e3 : wr.cell? ⟨g, k * 4 + 3, none⟩ = some (.bool ln.o) := bcell HU.out.2 d3 hgl
      have hki : (k : Int) < (P.length : Int) := by omega
      have hk0 : (0 : Int) ≤ (k : Int) := by omega
      have HPK := Lib.hid hp
      clear hg d0 d1 d2 d3 hp
      go_wp2
      go_region_law (first
        | (refine step_ex rfl (.tmp 11) (.tmp 33) 69 rfl _ _ _ rfl rfl (flat_ex (W := w) (v := .slice ob on oc) (n := on) (xs := lcells (P.take k)) (p := (.slice ta tn tc, ln)) ?_ ?_ rfl hon2) ?_
           · (repeat first | (with_reducible apply Up.drew) | (with_reducible apply Up.alloc)); (with_reducible exact HU.out)
           · exact src_row (heap_drew (heap_alloc_new _ _)) rfl rfl
           intro b4 n4 cap4 w4 hp4
           have HP4 := Lib.hid hp4.2
           have HN4 := Lib.hid hp4.1
           clear hp4))
      all_goals go_wp2
      all_goals go_roundw
      all_goals first
        | exact fl_on HPK.out (by rw [HN4.out, HON.out]) HP4.out (by simp)
        | (simp [intOf]; omega)
    · have hki : ¬ (k : Int) < (P.length : Int) := by omega
      go_wp2
      go_ret
      have hU := HU.out
      rw [List.take_of_length_le (by omega)] at hU
      exact ⟨ob, on, oc, rfl, by have := HON.out; omega, hU⟩

end Go.Proofs.YtpnboieppkjfnaaGreat

/-
  How documents lie in memory: lines that are kept, documents that are not made yet, and made ones; what a step leaves as it was.
-/
namespace Go.Proofs.YtpnboieppkjfnaaGreat
open Go.RowKit

def tcellB (F : ByteArray) (b : Int) (t : Tk) : List Value := [.int .i64 (t.k : Int), .string ⟨t.x.toArray⟩, .bool t.sp, .string F, .int .i64 ((t.f : Int) - b), .int .i64 ((t.t : Int) - b), .bool false, .slice none 0 0]
def tcellsB (F : ByteArray) (b : Int) (T : List Tk) : List Value := T.flatMap (tcellB F b)
def dcellB (F : ByteArray) (b : Int) (d : Dg) : List Value := [.int .i64 (d.c : Int), .string F, .int .i64 ((d.f : Int) - b), .int .i64 ((d.t : Int) - b)]
def dcellsB (F : ByteArray) (b : Int) (D : List Dg) : List Value := D.flatMap (dcellB F b)
def Efile : ByteArray := ⟨#[]⟩

def lineObj (tv dv : Value) (b : Int) (l : Ln) : Obj := .cells #[tv, .int .i64 ((l.f : Int) - b), .int .i64 ((l.t : Int) - b), .bool l.o, dv] 113 (0, 0)

/-- Places of a line, as it was lexed, are those of a text that may be. -/
def Small (b : Int) (x : Ln × List Dg) : Prop :=
  (-100000 ≤ b ∧ b ≤ 100000) ∧ (0 ≤ (x.1.f : Int) - b ∧ (x.1.f : Int) - b ≤ 70000) ∧ (0 ≤ (x.1.t : Int) - b ∧ (x.1.t : Int) - b ≤ 70000) ∧
  (∀ t ∈ x.1.toks, (0 ≤ (t.f : Int) - b ∧ (t.f : Int) - b ≤ 70000) ∧ (0 ≤ (t.t : Int) - b ∧ (t.t : Int) - b ≤ 70000)) ∧
  (∀ d ∈ x.2, (0 ≤ (d.f : Int) - b ∧ (d.f : Int) - b ≤ 70000) ∧ (0 ≤ (d.t : Int) - b ∧ (d.t : Int) - b ≤ 70000)) ∧ x.1.toks.length ≤ 70000 ∧ x.2.length ≤ 70000

/-- A line lies there, as it was lexed. -/
def LineAt (w : World) (p : Nat) (b : Int) (x : Ln × List Dg) : Prop :=
  ∃ tv dv, w.heap[p]? = some (lineObj tv dv b x.1) ∧ w.ownsRow 0 110 8 tv x.1.toks.length (tcellsB Efile b x.1.toks) ∧ w.ownsRow 0 104 4 dv x.2.length (dcellsB Efile b x.2)

def kcell (k : Nat × Int) : List Value := [.pointer (some ⟨k.1, 0, none⟩), .int .i64 k.2]
def kcells (K : List (Nat × Int)) : List Value := K.flatMap kcell

/-- Kept lines, as they are read. -/
def KRead (K : List (Nat × Int)) (R : List (Ln × List Dg)) (w : World) : Prop :=
  K.length = R.length ∧ ∀ (i : Nat) k x, K[i]? = some k → R[i]? = some x → Small k.2 x ∧ LineAt w k.1 k.2 x
def KRow (v : Value) (R : List (Ln × List Dg)) (w : World) : Prop :=
  ∃ K, w.ownsRow 0 84 2 v K.length (kcells K) ∧ KRead K R w

def docObj (F : ByteArray) (r : Option Addr) (d st q : Int) (ev : Value) (fr te mo : Int) (lv : Value) (wk : Int) : Obj :=
  .cells #[.string F, .pointer r, .int .u32 d, .int .i32 st, .int .u32 q, ev, .int .i64 fr, .int .i64 te, .int .i64 mo, lv, .int .i64 wk] 67 (0, 0)

/-- A text of pieces, and an edit of it. -/
structure Ed (Ts : List (List UInt8)) (fr te : Nat) (l : List UInt8) : Prop where
  pcs : Pcs Ts
  le : fr ≤ te
  to_le : te ≤ Ts.flatten.length
  is : ∃ ins, l = Ts.flatten.take fr ++ (ins ++ Ts.flatten.drop te)
  old : Ts.flatten.length ≤ 65536
  new : l.length ≤ 65536

/-- The objects that documents are made of, but for themselves and for ropes' nodes. -/
def Calm (o : Obj) : Prop := ∃ cs ty, o = .cells cs ty (0, 0) ∧ ty ≠ 144 ∧ ty ≠ 67 ∧ ty ≠ 160
def IsDoc (o : Obj) : Prop := ∃ cs, o = .cells cs 67 (0, 0)
/-- Such objects are as they were. -/
def Sm (w w' : World) : Prop := ∀ (k : Nat) (o : Obj), w.heap[k]? = some o → Calm o → w'.heap[k]? = some o

theorem Sm.refl (w : World) : Sm w w := fun _ _ h _ => h
theorem Sm.trans {a b c : World} (h : Sm a b) (k : Sm b c) : Sm a c := fun i o hi ho => k i o (h i o hi ho) ho
theorem Sm.below {w w' : World} (b : Below w.heap.size w w') : Sm w w' := fun k _ hk _ => (b.block k (row_lt hk)).trans hk

theorem calm_no_node {B : Nat} {L : List Nat} {M : Mp} {w : World} (h : Inv B L M w) {k : Nat} {o : Obj} (ho : w.heap[k]? = some o) (hc : Calm o ∨ IsDoc o) : M k = none := by
  cases e : M k with
  | none => rfl
  | some u =>
    obtain ⟨lp, rp, d, st, q, br, h1, _⟩ := h.node k u e
    rw [ho] at h1
    rcases hc with ⟨cs, ty, rfl, hn, hd⟩ | ⟨cs, rfl⟩
    · simp only [nodeObj, Option.some.injEq, Obj.cells.injEq] at h1
      exact absurd h1.2.1 hn
    · simp only [nodeObj, Option.some.injEq, Obj.cells.injEq] at h1
      exact absurd h1.2.1 (by decide)

/-- What has become of the world: blocks of S alone were written (and nodes); new ones are there. -/
structure Kr (B : Nat) (S : List Nat) (M : Mp) (w : World) (M' : Mp) (w' : World) : Prop where
  os : w'.os = w.os
  tape : w'.tape = w.tape
  output : w'.output = w.output
  size : w.heap.size ≤ w'.heap.size
  ext : ∀ k, k < w.heap.size → M' k = M k
  block : ∀ k, k < w.heap.size → M k = none → k ∉ S → w'.heap[k]? = w.heap[k]?
  inv : Inv B [] M' w'

theorem Kr.refl {B : Nat} (S : List Nat) {M : Mp} {w : World} (h : Inv B [] M w) : Kr B S M w M w := ⟨rfl, rfl, rfl, Nat.le_refl _, fun _ _ => rfl, fun _ _ _ _ => rfl, h⟩
theorem Kr.of_st {B : Nat} {S : List Nat} {M M' : Mp} {w w' : World} (s : St B M w M' w') : Kr B S M w M' w' :=
  ⟨s.fr.os, s.fr.tape, s.fr.output, s.fr.size, s.ext, fun k hk hn _ => s.fr.block k hk hn, s.inv⟩
theorem Kr.of_below {B : Nat} {S : List Nat} {M : Mp} {w w' : World} (h : Inv B [] M w) (b : Below w.heap.size w w') : Kr B S M w M w' := Kr.of_st (St.below h b)
theorem Kr.trans {B : Nat} {S S' : List Nat} {M M' M'' : Mp} {a b c : World} (h : Kr B S M a M' b) (k : Kr B S' M' b M'' c) (hS : ∀ j ∈ S', j < a.heap.size → j ∈ S) : Kr B S M a M'' c :=
  ⟨k.os.trans h.os, k.tape.trans h.tape, k.output.trans h.output, Nat.le_trans h.size k.size, fun j hj => (k.ext j (Nat.lt_of_lt_of_le hj h.size)).trans (h.ext j hj),
    fun j hj hn hs => (k.block j (Nat.lt_of_lt_of_le hj h.size) ((h.ext j hj).trans hn) (fun x => hs (hS j x hj))).trans (h.block j hj hn hs), k.inv⟩
theorem Kr.same {B : Nat} {S : List Nat} {M M' M'' : Mp} {a b c : World} (h : Kr B S M a M' b) (k : Kr B S M' b M'' c) : Kr B S M a M'' c := h.trans k fun _ hj _ => hj
theorem Kr.more {B : Nat} {S S' : List Nat} {M M' : Mp} {a b : World} (h : Kr B S M a M' b) (hS : ∀ j ∈ S, j ∈ S') : Kr B S' M a M' b := (Kr.refl S' (M := M) (w := a) (B := B) |> fun _ => ⟨h.os, h.tape, h.output, h.size, h.ext, fun k hk hn hs => h.block k hk hn (fun x => hs (hS k x)), h.inv⟩)
theorem Kr.st {B : Nat} {S : List Nat} {M M' M'' : Mp} {a b c : World} (h : Kr B S M a M' b) (s : St B M' b M'' c) : Kr B S M a M'' c := h.trans (Kr.of_st (S := []) s) (fun _ hj => by cases hj)
theorem Kr.below {B : Nat} {S : List Nat} {M M' : Mp} {a b c : World} (h : Kr B S M a M' b) (s : Below b.heap.size b c) : Kr B S M a M' c := h.st (St.below h.inv s)
theorem Kr.drew {B : Nat} {S : List Nat} {M M' : Mp} {a b : World} (h : Kr B S M a M' b) : Kr B S M a M' b.drew := h.below (Below.refl _ _).drew
theorem Kr.drewN {B : Nat} {S : List Nat} {M M' : Mp} {a b : World} (h : Kr B S M a M' b) (n : Nat) : Kr B S M a M' (b.drewN n) := h.below (Below.of_drews _ _)
theorem Kr.alloc {B : Nat} {S : List Nat} {M M' : Mp} {a b : World} (h : Kr B S M a M' b) (o : Obj) : Kr B S M a M' (b.alloc o) := h.below ((Below.refl _ _).alloc (Nat.le_refl _) _)

def Docs (S : List Nat) (w : World) : Prop := ∀ j ∈ S, ∃ o, w.heap[j]? = some o ∧ IsDoc o
theorem Kr.sm {B : Nat} {S : List Nat} {M M' : Mp} {w w' : World} (h : Kr B S M w M' w') (h0 : Inv B [] M w) (hS : ∀ j ∈ S, j < w.heap.size → ∃ o, w.heap[j]? = some o ∧ IsDoc o) : Sm w w' := fun k o hk ho => by
  refine (h.block k (row_lt hk) (calm_no_node h0 hk (.inl ho)) fun hs => ?_).trans hk
  obtain ⟨o', h1, cs, rfl⟩ := hS k hs (row_lt hk)
  rw [hk] at h1
  obtain ⟨cs', ty, rfl, -, hd⟩ := ho
  simp only [Option.some.injEq, Obj.cells.injEq] at h1
  exact hd.1 h1.2.1
/-- All is as it was but what is new. -/
theorem Kr.done {B : Nat} {S : List Nat} {M' : Mp} {W W' : World} {C : Nat} (k : Kr B S (fun _ => none) W M' W') (hS : ∀ j ∈ S, W.heap.size ≤ j) (hC : C ≤ W.heap.size) : Below C W W' :=
  ⟨k.os, k.tape, k.output, k.size, fun j hj => k.block j (Nat.lt_of_lt_of_le hj hC) rfl (fun h => by have := hS j h; omega)⟩

theorem own_sm {B : Nat} {w w' : World} {e : TypeId} {size : Nat} {v : Value} {n : Nat} {xs : List Value} (h : w.ownsRow B e size v n xs) (s : Sm w w') (he : e ≠ 144 ∧ e ≠ 67 ∧ e ≠ 160) : w'.ownsRow B e size v n xs := by
  obtain ⟨h1, h2 | ⟨g, cap, cur, rfl, hg, hh, hr⟩⟩ := h
  · exact ⟨h1, .inl h2⟩
  · exact ⟨h1, .inr ⟨g, cap, cur, rfl, hg, s _ _ hh ⟨_, _, rfl, he.1, he.2⟩, hr⟩⟩
theorem LineAt.sm {w w' : World} {p : Nat} {b : Int} {x : Ln × List Dg} (h : LineAt w p b x) (s : Sm w w') : LineAt w' p b x := by
  obtain ⟨tv, dv, h1, h2, h3⟩ := h
  exact ⟨tv, dv, s _ _ h1 ⟨_, _, rfl, by decide, by decide⟩, own_sm h2 s (by decide), own_sm h3 s (by decide)⟩
theorem KRead.sm {K : List (Nat × Int)} {R : List (Ln × List Dg)} {w w' : World} (h : KRead K R w) (s : Sm w w') : KRead K R w' :=
  ⟨h.1, fun i k x hk hx => ⟨(h.2 i k x hk hx).1, (h.2 i k x hk hx).2.sm s⟩⟩
theorem KRow.sm {v : Value} {R : List (Ln × List Dg)} {w w' : World} (h : KRow v R w) (s : Sm w w') : KRow v R w' := by
  obtain ⟨K, h1, h2⟩ := h
  exact ⟨K, own_sm h1 s (by decide), h2.sm s⟩
theorem RP.ext {B : Nat} {S : List Nat} {M M' : Mp} {w w' : World} (h0 : Inv B [] M w) (k : Kr B S M w M' w') (hs : Sm w w') {r : Option Addr} {o : Option T} (h : RP M w r o) : RP M' w' r o := by
  rcases h with h | ⟨b, p, rfl, hn, hh, hp⟩
  · exact .inl h
  · refine .inr ⟨b, p, rfl, (k.ext b (row_lt hh)).trans hn, hs _ _ hh ⟨_, _, rfl, by decide, by decide⟩, ?_⟩
    rcases hp with hp | ⟨b', t, h1, h2, h3⟩
    · exact .inl hp
    · exact .inr ⟨b', t, h1, h2, (k.ext b' (h0.lt h3)).trans h3⟩

theorem KRow.nil (w : World) : KRow (.slice none 0 0) [] w :=
  ⟨[], ⟨rfl, .inl ⟨rfl, rfl⟩⟩, rfl, fun i k x hk _ => by cases hk⟩

/-- What an anew holds. -/
def anewObj (ev : Value) (fr te mo : Int) (r : Option Addr) (first next : Int) : Obj := .cells #[ev, .int .i64 fr, .int .i64 te, .int .i64 mo, .pointer r, .int .i64 first, .int .i64 next] 160 (0, 0)

end Go.Proofs.YtpnboieppkjfnaaGreat

/-
  slices.Clone, slices.Grow and slices.Concat, at what relex uses them for.
-/
namespace Go.Proofs.YtpnboieppkjfnaaGreat
open Go.RowKit

theorem Tryz.infoKept : (Tryz.prog.info? 84).map (fun i => (i.zero, i.size, i.bytes)) = some (some (.agg #[.pointer none, .int .i64 0]), 2, 16) := by kernel_rfl

/-- A row that is new. -/
def NewRow (W : World) (e : TypeId) (size n : Nat) (xs : List Value) (end_ : Ending) (w' : World) : Prop :=
  ∃ a cap, end_ = .returned (.slice a n cap) ∧ Up W e size (.slice a n cap) n xs w'

theorem new_row {W : World} {e : TypeId} {size n m : Nat} {v : Value} {xs : List Value} {w' : World} (h : Up W e size v m xs w') (hm : m = n) : NewRow W e size n xs (.returned v) w' := by
  subst hm
  obtain ⟨a, cap, rfl, -⟩ := row_form h.1
  exact ⟨a, cap, rfl, h⟩

set_option maxRecDepth 100000 in
theorem cloneT_any {w : World} {v : Value} {m : Nat} {news : List Value} (hs : Src w v m 8 news) (hlt : ∀ ad m c, v = .slice (some ad) m c → ad.block < w.heap.size) (h1 : ∀ u ∈ news, u.oneCell' = true) (hm : m ≤ 500000) :
    Calls Tryz.prog 46 #[v] w (NewRow w 110 8 m news) := by
  have hq := fun (w : World) (a : Option Addr) (n c : Nat) => Lib.run_eql_slice_nil (P := Tryz.prog) w 85 110 a n c 0 0 Tryz.underlying85
  obtain ⟨i0, hi, hz0, hz1, hz2⟩ := info_parts Tryz.infoTok
  have HS := Lib.hid hs
  rcases hs with ⟨rfl, rfl, rfl⟩ | ⟨ad, c, rfl, -, -⟩
  · clear HS hlt h1
    go_enter Tryz.func46, Tryz.ntmps46
    go_wp2
    go_ret
    exact new_row (up_nil w _ 8) rfl
  · have HR := Lib.hid (up_empty w 110 8)
    have HS2 := Lib.hid (HS.out.below hlt HR.out.2)
    have H1 := Lib.hid h1
    clear hlt h1
    go_enter Tryz.func46, Tryz.ntmps46
    go_wp2_with (at_builtin; refine wpList_append_ex rfl (.tmp 5) (.tmp 6) 85 rfl _ (app_up Tryz.underlying85 hi hz0 hz1 hz2 rfl (by decide) (by decide) HR.out HS2.out H1.out (by omega)) ?_; intro v' w1 hu; have U1 := Lib.hid hu; clear hu)
    go_ret
    exact new_row U1.out (by omega)

set_option maxRecDepth 100000 in
theorem cloneD_any {w : World} {v : Value} {m : Nat} {news : List Value} (hs : Src w v m 4 news) (hlt : ∀ ad m c, v = .slice (some ad) m c → ad.block < w.heap.size) (h1 : ∀ u ∈ news, u.oneCell' = true) (hm : m ≤ 500000) :
    Calls Tryz.prog 94 #[v] w (NewRow w 104 4 m news) := by
  have hq := fun (w : World) (a : Option Addr) (n c : Nat) => Lib.run_eql_slice_nil (P := Tryz.prog) w 70 104 a n c 0 0 Tryz.underlying70
  obtain ⟨i0, hi, hz0, hz1, hz2⟩ := info_parts Tryz.infoDiag
  have HS := Lib.hid hs
  rcases hs with ⟨rfl, rfl, rfl⟩ | ⟨ad, c, rfl, -, -⟩
  · clear HS hlt h1
    go_enter Tryz.func94, Tryz.ntmps94
    go_wp2
    go_ret
    exact new_row (up_nil w _ 4) rfl
  · have HR := Lib.hid (up_empty w 104 4)
    have HS2 := Lib.hid (HS.out.below hlt HR.out.2)
    have H1 := Lib.hid h1
    clear hlt h1
    go_enter Tryz.func94, Tryz.ntmps94
    go_wp2_with (at_builtin; refine wpList_append_ex rfl (.tmp 5) (.tmp 6) 70 rfl _ (app_up Tryz.underlying70 hi hz0 hz1 hz2 rfl (by decide) (by decide) HR.out HS2.out H1.out (by omega)) ?_; intro v' w1 hu; have U1 := Lib.hid hu; clear hu)
    go_ret
    exact new_row U1.out (by omega)

set_option maxRecDepth 100000 in
theorem growK_any (w : World) (n : Nat) (hn : n ≤ 500000) : Calls Tryz.prog 111 #[.slice none 0 0, .int .i64 (n : Int)] w (NewRow w 84 2 0 []) := by
  obtain ⟨i0, hi, hz0, hz1, hz2⟩ := info_parts Tryz.infoKept
  rcases Nat.eq_zero_or_pos n with h0 | h0
  · subst h0
    go_enter Tryz.func111, Tryz.ntmps111
    go_wp2
    go_ret
    exact new_row (up_nil w _ 2) rfl
  · have hrz := fun ty => Lib.run_append_nil_zeros (P := Tryz.prog) w 60 3 ty 84 i0 _ .i64 .i64 Tryz.underlying60 Tryz.underlying3 hi hz0 n h0 (by rw [hz1]; decide) (by omega) (by rw [hz2]; omega)
    have hGn : n ≤ grownCap w n 0 84 := grownCap_ge w _ _ _
    have hGm : grownCap w n 0 84 ≤ maxLen := grownCap_le_maxLen w n 0 84 (by unfold maxLen; omega)
    obtain ⟨G, hG⟩ : ∃ G, grownCap w n 0 84 = G := ⟨_, rfl⟩
    rw [hG] at hrz hGn hGm
    generalize hZ : Builtin.zeroCells (Value.agg #[.pointer none, .int .i64 0]).cells n ++ Builtin.zeroCells (Value.agg #[.pointer none, .int .i64 0]).cells (G - n) = Z at hrz
    have hZs : Z.size = G * 2 := by rw [← hZ]; simp [size_zeroCells, Value.cells]; omega
    have hGm2 : G ≤ 9223372036854775807 := by unfold maxLen at hGm; exact hGm
    have HU : Hid (Up w 84 2 (.slice (some ⟨w.heap.size, 0, none⟩) 0 G) 0 [] (w.drew.alloc (.cells Z 84))) := Lib.hid ⟨World.ownsRow_made (e := 84) (size := 2) (base := w.heap.size) w.drew Z G (Nat.le_refl _) hGm hZs, (Below.refl _ _).drew.alloc (Nat.le_refl _) _⟩
    clear hZ hG hZs hGm
    go_enter Tryz.func111, Tryz.ntmps111
    go_wp2_with (at_builtin; refine Lib.wpList_append_run _ rfl _ _ _ _ rfl _ _ rfl rfl _ _ (hrz _) ?_)
    go_ret
    exact new_row HU.out rfl

abbrev CSrc := Option Addr × Nat × Nat × List Value
def cval (s : CSrc) : Value := .slice s.1 s.2.1 s.2.2.1
def clen (S : List CSrc) : Nat := (S.map fun s => s.2.1).sum
def cnews (S : List CSrc) : List Value := S.flatMap fun s => s.2.2.2

theorem clen_snoc (S : List CSrc) (s : CSrc) : clen (S ++ [s]) = clen S + s.2.1 := by simp [clen]
theorem cnews_snoc (S : List CSrc) (s : CSrc) : cnews (S ++ [s]) = cnews S ++ s.2.2.2 := by simp [cnews]
theorem clen_take_le (S : List CSrc) (k : Nat) : clen (S.take k) ≤ clen S := by
  have : clen S = clen (S.take k) + clen (S.drop k) := by
    conv => lhs; rw [← List.take_append_drop k S]
    unfold clen
    rw [List.map_append, List.sum_append]
  omega

def CRel1 (S : List CSrc) (n i : Value) : Prop := ∃ k : Nat, k ≤ S.length ∧ i = .int .i64 (k : Int) ∧ n = .int .i64 (clen (S.take k) : Int)
def CRel2 (w : World) (S : List CSrc) (v i : Value) (wr : World) : Prop :=
  ∃ (k : Nat) (a : Option Addr) (n cap : Nat), k ≤ S.length ∧ i = .int .i64 (k : Int) ∧ v = .slice a n cap ∧ n = clen (S.take k) ∧ Up w 84 2 (.slice a n cap) n (cnews (S.take k)) wr

set_option maxRecDepth 100000 in
set_option maxHeartbeats 1600000 in
theorem concat_any {w : World} {b : Nat} {S : List CSrc} (hl : S.length ≤ 100) (hbl : b < w.heap.size) (hc : ∀ (k : Nat) s, S[k]? = some s → w.cell? ⟨b, k, none⟩ = some (cval s))
    (hs : ∀ s ∈ S, Src w (cval s) s.2.1 2 s.2.2.2 ∧ ∀ ad, s.1 = some ad → ad.block < w.heap.size) (h1 : ∀ s ∈ S, ∀ u ∈ s.2.2.2, u.oneCell' = true) (hn : clen S ≤ 500000) :
    Calls Tryz.prog 93 #[.slice (some ⟨b, 0, none⟩) S.length S.length] w (NewRow w 84 2 (clen S) (cnews S)) := by
  obtain ⟨i0, hi, hz0, hz1, hz2⟩ := info_parts Tryz.infoKept
  have HC := Lib.hid hc
  have HS := Lib.hid hs
  have H1 := Lib.hid h1
  have HN := Lib.hid hn
  clear hc hs h1 hn
  go_enter Tryz.func93, Tryz.ntmps93
  go_wp2
  go_loop [3, 11] (fun n i => CRel1 S n i) (fun _ i => S.length - (intOf i).toNat)
  case atStart => exact ⟨0, Nat.zero_le _, rfl, rfl⟩
  case round =>
    obtain ⟨k, hk, rfl, rfl⟩ := hrel
    have hle := clen_take_le S k
    have hN := HN.out
    by_cases hlt : k < S.length
    · obtain ⟨⟨sa, sn, sc, sx⟩, hS⟩ : ∃ s, S[k]? = some s := ⟨_, List.getElem?_eq_getElem hlt⟩
      have hcell := HC.out k _ hS
      unfold cval at hcell
      simp only at hcell
      have hle2 := clen_take_le S (k + 1)
      have htk : S.take (k + 1) = S.take k ++ [(sa, sn, sc, sx)] := by rw [List.take_add_one, hS]; rfl
      have hsum : clen (S.take (k + 1)) = clen (S.take k) + sn := by rw [htk, clen_snoc]
      have HSUM := Lib.hid hsum
      have hsn : clen (S.take k) + sn ≤ 500000 := by omega
      have hki : (k : Int) < (S.length : Int) := by omega
      obtain ⟨cl, hcl⟩ : ∃ cl, clen (S.take k) = cl := ⟨_, rfl⟩
      rw [hcl] at hsn hle HSUM ⊢
      clear htk hsum hS hle2 hcl
      go_wp2
      go_round
      case rel => exact ⟨k + 1, hlt, by go_num, by rw [HSUM.out]; go_num⟩
      case measure => simp [intOf]; omega
    · have hke : k = S.length := by omega
      subst hke
      rw [List.take_length] at hle ⊢
      have HG := fun (X : World) => growK_any X (clen S) hN
      obtain ⟨cl, hcl⟩ : ∃ cl, clen S = cl := ⟨_, rfl⟩
      have HCL := Lib.hid hcl
      rw [hcl] at hle hN HG ⊢
      have HGR := Lib.hid HG
      clear hcl HG
      go_wp2_with (go_at_call 111; (with_reducible refine (HGR.out _).mono ?_); rintro e w1 ⟨ga, gc, rfl, hu⟩; have U1 := Lib.hid hu; clear hu)
      go_loopw [6, 27] (fun v i wr => CRel2 w S v i wr) (fun _ i _ => S.length - (intOf i).toNat)
      case atStart => exact ⟨0, _, _, _, Nat.zero_le _, rfl, rfl, rfl, U1.out⟩
      case round =>
        obtain ⟨k, a, n, cap, hk2, rfl, rfl, hn2, hu⟩ := hrel
        have U2 := Lib.hid hu
        have HN2 := Lib.hid hn2
        clear hu hn2
        by_cases hlt2 : k < S.length
        · obtain ⟨⟨sa, sn, sc, sx⟩, hS⟩ : ∃ s, S[k]? = some s := ⟨_, List.getElem?_eq_getElem hlt2⟩
          have hcell := HC.out k _ hS
          unfold cval at hcell
          simp only at hcell
          have hmem := List.mem_of_getElem? hS
          have hcell2 := bcell U2.out.2 hcell hbl
          have HSR := Lib.hid ((HS.out _ hmem).1.below (fun ad m c e => (HS.out _ hmem).2 ad (by unfold cval at e; simp only [Value.slice.injEq] at e; exact e.1)) U2.out.2)
          have HX1 := Lib.hid (H1.out _ hmem)
          have hle2 := clen_take_le S (k + 1)
          have htk : S.take (k + 1) = S.take k ++ [(sa, sn, sc, sx)] := by rw [List.take_add_one, hS]; rfl
          have hsum : clen (S.take (k + 1)) = clen (S.take k) + sn := by rw [htk, clen_snoc]
          have HNW : Hid (cnews (S.take (k + 1)) = cnews (S.take k) ++ sx) := Lib.hid (by rw [htk, cnews_snoc])
          have HSUM := Lib.hid hsum
          have hns : n + sn ≤ 1000000 := by have := HN2.out; have := HN.out; omega
          have hki : (k : Int) < (S.length : Int) := by omega
          unfold cval at HSR
          simp only at HSR HX1
          clear htk hsum hS hle2 hcell hmem
          go_wp2_with (at_builtin; refine wpList_append_ex rfl (.tmp 31) (.tmp 32) 60 rfl _ (app_up Tryz.underlying60 hi hz0 hz1 hz2 rfl (by decide) (by decide) U2.out HSR.out HX1.out hns) ?_; intro v' w2 hu; obtain ⟨va, vc, rfl, -, -, -⟩ := row_form hu.1; have U3 := Lib.hid hu; clear hu)
          go_roundw
          case rel => exact ⟨k + 1, va, n + sn, vc, hlt2, by go_num, rfl, by rw [HSUM.out, HN2.out], by rw [HNW.out]; exact U3.out⟩
          case measure => simp [intOf]; omega
        · have hke : k = S.length := by omega
          subst hke
          have hU := U2.out
          have hnn := HN2.out
          rw [List.take_length] at hU hnn
          have HF : Hid (NewRow w 84 2 (clen S) (cnews S) (.returned (.slice a n cap)) wr) := Lib.hid (new_row hU hnn)
          clear hU hnn
          go_wp2
          go_ret
          exact HF.out

end Go.Proofs.YtpnboieppkjfnaaGreat

/-
  Where a kept line is; whether a text is spliced at its end, and lines end in a comment.
-/
namespace Go.Proofs.YtpnboieppkjfnaaGreat
open Go.RowKit

def NatBel (n : Nat) (w : World) (e : Ending) (w' : World) : Prop := e = .returned (.int .i64 (n : Int)) ∧ Below w.heap.size w w'

set_option maxRecDepth 100000 in
theorem from_any {w : World} {p : Nat} {b : Int} {x : Ln × List Dg} (h : LineAt w p b x) (hs : Small b x) : Calls Tryz.prog 47 #[.agg #[.pointer (some ⟨p, 0, none⟩), .int .i64 b]] w (NatBel x.1.f w) := by
  obtain ⟨tv, dv, h1, -, -⟩ := h
  obtain ⟨⟨hb1, hb2⟩, ⟨hf1, hf2⟩, -⟩ := hs
  have hp : p < w.heap.size := row_lt h1
  have c1 : w.cell? ⟨p, 1, none⟩ = some (.int .i64 ((x.1.f : Int) - b)) := by rw [Lib.cell_of_heap h1]; rfl
  obtain ⟨f0, hf0⟩ : ∃ f0, (x.1.f : Int) - b = f0 := ⟨_, rfl⟩
  rw [hf0] at c1 hf1 hf2
  have HF : Hid (f0 + b = (x.1.f : Int)) := Lib.hid (by omega)
  have hw : IntKind.i64.wrap (f0 + b) = f0 + b := IntWalk.i64_in _ (by omega)
  clear h1 hf0
  go_enter Tryz.func47, Tryz.ntmps47
  go_wp2
  go_quiet (fail)
  go_wp2
  go_ret
  exact ⟨ret_nat HF.out, below_up ((Below.refl _ _).alloc (Nat.le_refl _) _) (Below.of_drews _ _)⟩

set_option maxRecDepth 100000 in
theorem to_any {w : World} {p : Nat} {b : Int} {x : Ln × List Dg} (h : LineAt w p b x) (hs : Small b x) : Calls Tryz.prog 48 #[.agg #[.pointer (some ⟨p, 0, none⟩), .int .i64 b]] w (NatBel x.1.t w) := by
  obtain ⟨tv, dv, h1, -, -⟩ := h
  obtain ⟨⟨hb1, hb2⟩, -, ⟨hf1, hf2⟩, -⟩ := hs
  have hp : p < w.heap.size := row_lt h1
  have c1 : w.cell? ⟨p, 2, none⟩ = some (.int .i64 ((x.1.t : Int) - b)) := by rw [Lib.cell_of_heap h1]; rfl
  obtain ⟨f0, hf0⟩ : ∃ f0, (x.1.t : Int) - b = f0 := ⟨_, rfl⟩
  rw [hf0] at c1 hf1 hf2
  have HF : Hid (f0 + b = (x.1.t : Int)) := Lib.hid (by omega)
  have hw : IntKind.i64.wrap (f0 + b) = f0 + b := IntWalk.i64_in _ (by omega)
  clear h1 hf0
  go_enter Tryz.func48, Tryz.ntmps48
  go_wp2
  go_quiet (fail)
  go_wp2
  go_ret
  exact ⟨ret_nat HF.out, below_up ((Below.refl _ _).alloc (Nat.le_refl _) _) (Below.of_drews _ _)⟩

def SpanBel (F : ByteArray) (f t : Int) (w : World) (e : Ending) (w' : World) : Prop := e = .returned (.agg #[.string F, .int .i64 f, .int .i64 t]) ∧ Below w.heap.size w w'

set_option maxRecDepth 100000 in
theorem spanK_any (p : Option Addr) (b f t : Int) (F G : ByteArray) (w : World) (hbb : -100000 ≤ b ∧ b ≤ 100000) (hf : 0 ≤ f ∧ f ≤ 70000) (ht : 0 ≤ t ∧ t ≤ 70000) : Calls Tryz.prog 39 #[.agg #[.pointer p, .int .i64 b], .string F, .agg #[.string G, .int .i64 f, .int .i64 t]] w (SpanBel F (f + b) (t + b) w) := by
  obtain ⟨hb1, hb2⟩ := hbb
  obtain ⟨hf1, hf2⟩ := hf
  obtain ⟨ht1, ht2⟩ := ht
  go_enter Tryz.func39, Tryz.ntmps39
  go_wp2
  refine bodyPost_ret (v := .agg #[.string F, .int .i64 (f + b), .int .i64 (t + b)]) (by simp [results, Tryz.results39, go_sem]) rfl ⟨rfl, ?_⟩
  exact (((Below.refl _ _).alloc (Nat.le_refl _) _).alloc (by simp) _).alloc (by simp; omega) _

theorem suffix_is {s p : ByteArray} {b : Bool} (h : Lib.hasSuffix s.data.toList p.data.toList = b) (hs : s.size ≤ 1000000) (W : World) : Calls Tryz.prog 105 #[.string s, .string p] W (BoolPost b W) := by
  subst h
  refine (Tryz.strings_HasSuffix s p W (by omega)).mono ?_
  rintro e w' ⟨rfl, rfl⟩
  exact ⟨rfl, rfl⟩

theorem spliced_any (s : ByteArray) (w : World) (hs : s.size ≤ 1000000) : Calls Tryz.prog 86 #[.string s] w (BoolPost (spB s.data.toList) w) := by
  obtain ⟨b1, h1⟩ : ∃ b1, Lib.hasSuffix s.data.toList (⟨#[92, 10]⟩ : ByteArray).data.toList = b1 := ⟨_, rfl⟩
  obtain ⟨b2, h2⟩ : ∃ b2, Lib.hasSuffix s.data.toList (⟨#[63, 63, 47, 10]⟩ : ByteArray).data.toList = b2 := ⟨_, rfl⟩
  have he : spB s.data.toList = (b1 || b2) := by rw [← h1, ← h2]; rfl
  rw [he]
  have H1 := Lib.hid h1
  have H2 := Lib.hid h2
  clear h1 h2 he
  cases b1
  all_goals
    go_enter Tryz.func86, Tryz.ntmps86
    go_wp2_with (first
      | (go_at_call 105; (with_reducible refine (suffix_is H1.out hs _).mono ?_); rintro e w' ⟨rfl, rfl⟩)
      | (go_at_call 105; (with_reducible refine (suffix_is H2.out hs _).mono ?_); rintro e w' ⟨rfl, rfl⟩))
    go_ret
    exact ⟨ret_bool (by simp), rfl⟩

def opnLn (lines : List Ln) : Bool := match lines.getLast? with
  | some l => l.o
  | none => false
theorem opnA_ln (a : Acc) : opnA a = opnLn a.lines := rfl

theorem open_any {F : ByteArray} {lines : List Ln} {v : Value} {w : World} (h : LinesAt F lines v w) : Calls Tryz.prog 89 #[v] w (BoolPost (opnLn lines) w) := by
  obtain ⟨a, cap, rfl, h1, h2, h3⟩ := h
  unfold maxLen at h2
  rcases Nat.eq_zero_or_pos lines.length with h0 | h0
  · have e : lines = [] := List.eq_nil_of_length_eq_zero h0
    subst e
    clear h3
    go_enter Tryz.func89, Tryz.ntmps89
    go_wp2
    go_ret
    exact ⟨rfl, rfl⟩
  · obtain ⟨m, hm⟩ : ∃ m, lines.length = m + 1 := ⟨lines.length - 1, by omega⟩
    obtain ⟨x, hx⟩ : ∃ x, lines[m]? = some x := ⟨_, List.getElem?_eq_getElem (by omega)⟩
    obtain ⟨g, tv, rfl, hg, -, -, -, k3, -⟩ := h3 m x hx
    have ho : opnLn lines = x.o := by
      unfold opnLn
      rw [List.getLast?_eq_getElem?, hm, Nat.add_sub_cancel, hx]
    rw [ho, hm]
    have hcap : (m : Int) + 1 ≤ (cap : Int) := by omega
    clear h3 hx ho hm h0
    go_enter Tryz.func89, Tryz.ntmps89
    go_wp2
    go_ret
    exact ⟨rfl, rfl⟩

end Go.Proofs.YtpnboieppkjfnaaGreat
