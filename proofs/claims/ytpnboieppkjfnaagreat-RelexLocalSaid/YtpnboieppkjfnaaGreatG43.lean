/-
  Texts of the proof, put together: ReM, EdF.
-/
import Derived.Test.YtpnboieppkjfnaaGreatG42
import Derived.Test.YtpnboieppkjfnaaGreatG41

/-
  Documents in memory, as a table says; what a step leaves; made, walked.
-/
namespace Go.Proofs.YtpnboieppkjfnaaGreat
open Go.RowKit

/-- What there is to be known of a document: its file, its text, and what holds of how many lines are lexed anew for it. -/
structure DI where
  F : ByteArray
  l : List UInt8
  Q : Nat → Prop
abbrev DT := Nat → Option DI

def MadeAt (w : World) (p : Nat) (i : DI) (r : Option Addr) : Prop :=
  ∃ (lv : Value) (wk : Nat) (Ts : List (List UInt8)), w.heap[p]? = some (docObj i.F r 1 0 0 (.slice none 0 0) 0 0 0 lv (wk : Int)) ∧ KRow lv (rows 0 Ts) w ∧ Pcs Ts ∧ Ts.flatten = i.l ∧ i.Q wk
def RawAt (w : World) (p : Nat) (i : DI) (r : Option Addr) : Prop :=
  ∃ (ev : Value) (K : List (Nat × Int)) (fr te : Nat) (Ts : List (List UInt8)) (mf : Int), w.heap[p]? = some (docObj i.F r 0 0 0 ev (fr : Int) (te : Int) mf (.slice none 0 0) 0) ∧ (mf = (i.l.length : Int) - Ts.flatten.length ∨ (Ts = [] ∧ -65536 ≤ mf ∧ mf ≤ 65536)) ∧
    w.ownsRow 0 84 2 ev K.length (kcells K) ∧ KRead K (rows 0 Ts) w ∧ Ed Ts fr te i.l ∧ ∀ n, WorkOk Ts fr te i.l n → i.Q n
def DocAt (M : Mp) (w : World) (p : Nat) (i : DI) : Prop :=
  ∃ r o, RP M w r o ∧ otext o = i.l ∧ i.l.length ≤ 65536 ∧ (MadeAt w p i r ∨ RawAt w p i r)

theorem DocAt.obj {M : Mp} {w : World} {p : Nat} {i : DI} (h : DocAt M w p i) : ∃ cs, w.heap[p]? = some (.cells cs 67 (0, 0)) := by
  obtain ⟨r, o, -, -, -, ⟨lv, wk, Ts, h, -⟩ | ⟨ev, K, fr, te, Ts, mf, h, -⟩⟩ := h
  · exact ⟨_, h⟩
  · exact ⟨_, h⟩

structure All (B : Nat) (M : Mp) (D : DT) (w : World) : Prop where
  inv : Inv B [] M w
  doc : ∀ p i, D p = some i → DocAt M w p i ∧ B ≤ p

/-- What a step leaves. -/
structure Stp (B : Nat) (M : Mp) (D : DT) (w : World) (M' : Mp) (D' : DT) (w' : World) : Prop where
  os : w'.os = w.os
  tape : w'.tape = w.tape
  output : w'.output = w.output
  size : w.heap.size ≤ w'.heap.size
  extM : ∀ k, k < w.heap.size → M' k = M k
  extD : ∀ k, k < w.heap.size → D' k = D k
  block : ∀ k, k < w.heap.size → M k = none → D k = none → w'.heap[k]? = w.heap[k]?
  all : All B M' D' w'

theorem All.lt {B : Nat} {M : Mp} {D : DT} {w : World} (h : All B M D w) {p : Nat} {i : DI} (hp : D p = some i) : p < w.heap.size := by
  obtain ⟨cs, h1⟩ := (h.doc p i hp).1.obj
  exact row_lt h1
theorem All.noD {B : Nat} {M : Mp} {D : DT} {w : World} (h : All B M D w) {k : Nat} {o : Obj} (ho : w.heap[k]? = some o) (hc : Calm o) : D k = none := by
  cases e : D k with
  | none => rfl
  | some i =>
    obtain ⟨cs, h1⟩ := (h.doc k i e).1.obj
    obtain ⟨cs', ty, rfl, -, h2, -⟩ := hc
    rw [ho] at h1
    simp only [Option.some.injEq, Obj.cells.injEq] at h1
    exact absurd h1.2.1 h2
theorem Stp.refl {B : Nat} {M : Mp} {D : DT} {w : World} (h : All B M D w) : Stp B M D w M D w := ⟨rfl, rfl, rfl, Nat.le_refl _, fun _ _ => rfl, fun _ _ => rfl, fun _ _ _ _ => rfl, h⟩
theorem Stp.trans {B : Nat} {M M' M'' : Mp} {D D' D'' : DT} {a b c : World} (h : Stp B M D a M' D' b) (k : Stp B M' D' b M'' D'' c) : Stp B M D a M'' D'' c :=
  ⟨k.os.trans h.os, k.tape.trans h.tape, k.output.trans h.output, Nat.le_trans h.size k.size, fun j hj => (k.extM j (Nat.lt_of_lt_of_le hj h.size)).trans (h.extM j hj), fun j hj => (k.extD j (Nat.lt_of_lt_of_le hj h.size)).trans (h.extD j hj),
    fun j hj hm hd => (k.block j (Nat.lt_of_lt_of_le hj h.size) ((h.extM j hj).trans hm) ((h.extD j hj).trans hd)).trans (h.block j hj hm hd), k.all⟩
theorem Stp.sm {B : Nat} {M M' : Mp} {D D' : DT} {w w' : World} (h0 : All B M D w) (h : Stp B M D w M' D' w') : Sm w w' := fun k _ hk ho =>
  (h.block k (row_lt hk) (calm_no_node h0.inv hk (.inl ho)) (h0.noD hk ho)).trans hk

theorem rp_ext {M M' : Mp} {w w' : World} {B : Nat} (h0 : Inv B [] M w) (hM : ∀ k, k < w.heap.size → M' k = M k) (hs : Sm w w') {r : Option Addr} {o : Option T} (h : RP M w r o) : RP M' w' r o := by
  rcases h with h | ⟨b, p, rfl, hn, hh, hp⟩
  · exact .inl h
  · refine .inr ⟨b, p, rfl, (hM b (row_lt hh)).trans hn, hs _ _ hh ⟨_, _, rfl, by decide, by decide⟩, ?_⟩
    rcases hp with hp | ⟨b', t, h1, h2, h3⟩
    · exact .inl hp
    · exact .inr ⟨b', t, h1, h2, (hM b' (h0.lt h3)).trans h3⟩
theorem MadeAt.sm {w w' : World} {p : Nat} {i : DI} {r : Option Addr} (h : MadeAt w p i r) (hs : Sm w w') (hp : w'.heap[p]? = w.heap[p]?) : MadeAt w' p i r := by
  obtain ⟨lv, wk, Ts, h1, h2, h3⟩ := h
  exact ⟨lv, wk, Ts, hp.trans h1, h2.sm hs, h3⟩
theorem RawAt.sm {w w' : World} {p : Nat} {i : DI} {r : Option Addr} (h : RawAt w p i r) (hs : Sm w w') (hp : w'.heap[p]? = w.heap[p]?) : RawAt w' p i r := by
  obtain ⟨ev, K, fr, te, Ts, mf, h1, h0, h2, h3, h4⟩ := h
  exact ⟨ev, K, fr, te, Ts, mf, hp.trans h1, h0, own_sm h2 hs (by decide), h3.sm hs, h4⟩
theorem DocAt.sm {M M' : Mp} {w w' : World} {B : Nat} {p : Nat} {i : DI} (h : DocAt M w p i) (h0 : Inv B [] M w) (hM : ∀ k, k < w.heap.size → M' k = M k) (hs : Sm w w') (hp : w'.heap[p]? = w.heap[p]?) : DocAt M' w' p i := by
  obtain ⟨r, o, h1, h2, h3, h4⟩ := h
  refine ⟨r, o, rp_ext h0 hM hs h1, h2, h3, ?_⟩
  rcases h4 with h4 | h4
  · exact .inl (h4.sm hs hp)
  · exact .inr (h4.sm hs hp)

/-- What makes memory only, or works on ropes. -/
theorem Stp.of_st {B : Nat} {M M' : Mp} {D : DT} {w w' : World} (h : All B M D w) (s : St B M w M' w') (hb : ∀ k, k < w.heap.size → M k = none → w'.heap[k]? = w.heap[k]?) : Stp B M D w M' D w' := by
  have hs : Sm w w' := fun k o hk ho => (hb k (row_lt hk) (calm_no_node h.inv hk (.inl ho))).trans hk
  refine ⟨s.fr.os, s.fr.tape, s.fr.output, s.fr.size, s.ext, fun _ _ => rfl, fun k hk hm _ => hb k hk hm, s.inv, fun p i hp => ?_⟩
  obtain ⟨h1, h2⟩ := h.doc p i hp
  obtain ⟨cs, h3⟩ := h1.obj
  exact ⟨h1.sm h.inv s.ext hs (hb p (row_lt h3) (calm_no_node h.inv h3 (.inr ⟨cs, rfl⟩))), h2⟩
theorem Stp.st {B : Nat} {M M' : Mp} {D : DT} {w w' : World} (h : All B M D w) (s : St B M w M' w') : Stp B M D w M' D w' := Stp.of_st h s fun k hk hm => s.fr.block k hk hm
theorem Stp.below {B : Nat} {M : Mp} {D : DT} {w w' : World} (h : All B M D w) (b : Below w.heap.size w w') : Stp B M D w M D w' := Stp.st h (St.below h.inv b)

/-- One document alone has changed. -/
theorem Stp.one {B : Nat} {M : Mp} {D : DT} {w w' : World} (h : All B M D w) {p : Nat} {i : DI} (hp : D p = some i) (g : w.grownBy w' (some p)) (hn : DocAt M w' p i) : Stp B M D w M D w' := by
  obtain ⟨h1, h2⟩ := h.doc p i hp
  obtain ⟨cs, h3⟩ := h1.obj
  have hm : M p = none := calm_no_node h.inv h3 (.inr ⟨cs, rfl⟩)
  have hi : Inv B [] M w' := h.inv.same g.size fun b t hb => g.block b (h.inv.lt hb) (fun e => by
    have e2 : b = p := Option.some.inj e
    rw [e2, hm] at hb
    cases hb)
  have hs : Sm w w' := fun k o hk ho => (g.block k (row_lt hk) (fun e => by
    have e2 : k = p := Option.some.inj e
    have := h.noD hk ho
    rw [e2, hp] at this
    cases this)).trans hk
  refine ⟨g.os, g.tape, g.output, g.size, fun _ _ => rfl, fun _ _ => rfl, fun k hk _ hd => g.block k hk (fun e => by
    have e2 : k = p := Option.some.inj e
    rw [e2, hp] at hd
    cases hd), hi, fun q j hq => ?_⟩
  by_cases e : q = p
  · subst e
    rw [hp] at hq
    cases hq
    exact ⟨hn, h2⟩
  · obtain ⟨k1, k2⟩ := h.doc q j hq
    exact ⟨k1.sm h.inv (fun _ _ => rfl) hs (g.block q (h.lt hq) (fun e2 => e (Option.some.inj e2))), k2⟩

/-- It is made, and these are its lines. -/
def MdPost (B : Nat) (M : Mp) (D : DT) (w : World) (p : Nat) (i : DI) (e : Ending) (w' : World) : Prop :=
  ∃ (ad : Option Addr) (n cap wk : Nat) (r : Option Addr) (Ts : List (List UInt8)) (K : List (Nat × Int)), e = .returned (.slice ad n cap) ∧ n = K.length ∧ Stp B M D w M D w' ∧ w'.heap[p]? = some (docObj i.F r 1 0 0 (.slice none 0 0) 0 0 0 (.slice ad n cap) (wk : Int)) ∧
    w'.ownsRow 0 84 2 (.slice ad n cap) n (kcells K) ∧ KRead K (rows 0 Ts) w' ∧ Pcs Ts ∧ Ts.flatten = i.l ∧ i.Q wk ∧ ∀ r0, w.cell? ⟨p, 1, none⟩ = some (.pointer r0) → r = r0

theorem doc_rope {w : World} {p : Nat} {F : ByteArray} {r : Option Addr} {d st q : Int} {ev : Value} {fr te mo : Int} {lv : Value} {wk : Int} (h : w.heap[p]? = some (docObj F r d st q ev fr te mo lv wk)) : ∀ r0, w.cell? ⟨p, 1, none⟩ = some (.pointer r0) → r = r0 := fun r0 h0 => by
  have h1 : w.cell? ⟨p, 1, none⟩ = some (.pointer r) := by rw [Lib.cell_of_heap h]; rfl
  rw [h1] at h0
  cases h0
  rfl

theorem md_of {B : Nat} {M : Mp} {D : DT} {w w' : World} {p : Nat} {i : DI} {r : Option Addr} {lv : Value} {wk : Nat} {Ts : List (List UInt8)} (hs : Stp B M D w M D w') (h1 : w'.heap[p]? = some (docObj i.F r 1 0 0 (.slice none 0 0) 0 0 0 lv (wk : Int))) (h2 : KRow lv (rows 0 Ts) w') (h3 : Pcs Ts) (h4 : Ts.flatten = i.l) (h5 : i.Q wk) (h6 : ∀ r0, w.cell? ⟨p, 1, none⟩ = some (.pointer r0) → r = r0) : MdPost B M D w p i (.returned lv) w' := by
  obtain ⟨K, k1, k2⟩ := h2
  obtain ⟨ad, cap, rfl, -⟩ := krow_form k1
  exact ⟨ad, K.length, cap, wk, r, Ts, K, rfl, rfl, hs, h1, k1, k2, h3, h4, h5, h6⟩

set_option maxRecDepth 100000 in
theorem made_any {B : Nat} {M : Mp} {D : DT} {w : World} (h : All B M D w) {p : Nat} {i : DI} (hp : D p = some i) : Calls Tryz.prog 27 #[.pointer (some ⟨p, 0, none⟩)] w (MdPost B M D w p i) := by
  obtain ⟨⟨r, o, hrp, hot, hlen, hor⟩, hB⟩ := h.doc p i hp
  rcases hor with ⟨lv, wk, Ts, h1, h2, h3, h4, h5⟩ | ⟨ev, K, fr, te, Ts, mf, h1, hmf, h2, h3, h4, h5⟩
  · have HM : Hid (MdPost B M D w p i (.returned lv) w) := Lib.hid (md_of (Stp.refl h) h1 h2 h3 h4 h5 (doc_rope h1))
    obtain ⟨K, k1, -⟩ := h2
    obtain ⟨ad, cap, rfl, -⟩ := krow_form k1
    have c2 : w.cell? ⟨p, 2, none⟩ = some (.int .u32 1) := by rw [Lib.cell_of_heap h1]; rfl
    have c9 : w.cell? ⟨p, 9, none⟩ = some (.slice ad K.length cap) := by rw [Lib.cell_of_heap h1]; rfl
    clear h h1 hrp hot hlen h3 h4 h5 hp
    go_enter Tryz.func27, Tryz.ntmps27
    go_wp2_with (go_at_call 43; refine (do_done ⟨p, 2, none⟩ _ w c2).mono ?_; rintro e w' ⟨rfl, rfl⟩)
    go_ret
    exact HM.out
  · have hp0 : p < w.heap.size := row_lt h1
    have hdr1 := doc_rope h1
    have c2 : w.cell? ⟨p, 2, none⟩ = some (.int .u32 0) := by rw [Lib.cell_of_heap h1]; rfl
    have c3 : w.cell? ⟨p, 3, none⟩ = some (.int .i32 0) := by rw [Lib.cell_of_heap h1]; rfl
    have f3 : w.frozen? ⟨p, 3, none⟩ = false := frozen_of_row w p 3 _ _ h1
    have h1s := doc_set3 h1 1
    have hs := sm_doc (j := 3) (doc_is h1) (.int .i32 1)
    have hm : M p = none := calm_no_node h.inv h1 (.inr ⟨_, rfl⟩)
    have hinv : Inv B [] M (w.setCell ⟨p, 3, none⟩ (.int .i32 1)) := h.inv.same (by simp [World.setCell]) fun b t hb => heap_setCell_other w ⟨p, 3, none⟩ b _ (fun e => by
      have e2 : b = p := e
      rw [e2, hm] at hb
      cases hb)
    have hrx := relex_any hinv h1s hmf (rp_ext h.inv (fun _ _ => rfl) hs hrp) hot (own_sm h2 hs (by decide)) (h3.sm hs) h4
    have hcl : Calls Tryz.prog 44 #[.pointer (some ⟨p, 0, none⟩)] (w.setCell ⟨p, 3, none⟩ (.int .i32 1)) (ReClosurePost p (RxPost (w.setCell ⟨p, 3, none⟩ (.int .i32 1)) p i.F r Ts fr te i.l (.returned (.tuple #[])))) := by
      refine hrx.mono ?_
      rintro e w2 ⟨rfl, lv, wk, Ts', k1, k2, k3, k4, k5, k6⟩
      exact ⟨rfl, by rw [Lib.cell_of_heap k1]; rfl, by rw [Lib.cell_of_heap k1]; rfl, frozen_of_row w2 p 2 _ _ k1, frozen_of_row w2 p 3 _ _ k1, rfl, lv, wk, Ts', k1, k2, k3, k4, k5, k6⟩
    have HDO := Lib.hid (re_do_first p ⟨p, 0, none⟩ w _ c2 c3 f3 hcl)
    have HFI : Hid (∀ w2 : World, RxPost (w.setCell ⟨p, 3, none⟩ (.int .i32 1)) p i.F r Ts fr te i.l (.returned (.tuple #[])) w2 → ∃ (ad : Option Addr) (n cap : Nat), ((w2.drew.setCell ⟨p, 2, none⟩ (.int .u32 1)).setCell ⟨p, 3, none⟩ (.int .i32 0)).cell? ⟨p, 9, none⟩ = some (.slice ad n cap) ∧ MdPost B M D w p i (.returned (.slice ad n cap)) ((w2.drew.setCell ⟨p, 2, none⟩ (.int .u32 1)).setCell ⟨p, 3, none⟩ (.int .i32 0))) := Lib.hid (by
      rintro w2 ⟨-, lv, wk, Ts', k1, k2, k3, k4, k5, k6⟩
      have k1d : w2.drew.heap[p]? = _ := k1
      have g1 := doc_set2 k1d 1
      have g2 := doc_set3 g1 0
      have sA : Sm w2 ((w2.drew.setCell ⟨p, 2, none⟩ (.int .u32 1)).setCell ⟨p, 3, none⟩ (.int .i32 0)) := ((Sm.below (Below.refl _ _).drew).trans (sm_doc (doc_is k1d) _)).trans (sm_doc (doc_is g1) _)
      have hg : w.grownBy ((w2.drew.setCell ⟨p, 2, none⟩ (.int .u32 1)).setCell ⟨p, 3, none⟩ (.int .i32 0)) (some p) := grown_trans (grown_trans (grown_trans (grown_trans (grown_setP w p 3 _) k6) (grown_below (Below.refl _ _).drew)) (grown_setP _ p 2 _)) (grown_setP _ p 3 _)
      have hsm : Sm w ((w2.drew.setCell ⟨p, 2, none⟩ (.int .u32 1)).setCell ⟨p, 3, none⟩ (.int .i32 0)) := fun k o hk ho => (hg.block k (row_lt hk) (fun e => by
        have e2 : k = p := Option.some.inj e
        have := h.noD hk ho
        rw [e2, hp] at this
        cases this)).trans hk
      have hk2 := k2.sm sA
      have hst := Stp.one h hp hg ⟨r, o, rp_ext h.inv (fun _ _ => rfl) hsm hrp, hot, hlen, .inl ⟨lv, wk, Ts', g2, hk2, k3, k4, h5 wk k5⟩⟩
      have hmd := md_of hst g2 hk2 k3 k4 (h5 wk k5) hdr1
      obtain ⟨K', kk1, -⟩ := hk2
      obtain ⟨ad, cap, rfl, -⟩ := krow_form kk1
      exact ⟨ad, K'.length, cap, by rw [Lib.cell_of_heap g2]; rfl, hmd⟩)
    clear h h1 hdr1 hmf hrp hot hlen h2 h3 h4 h5 hp c2 c3 f3 h1s hs hm hinv hrx hcl
    go_enter Tryz.func27, Tryz.ntmps27
    go_wp2_with fail
    refine HDO.out.mono ?_
    rintro e w' ⟨rfl, w2, hq, rfl⟩
    obtain ⟨ad, n, cap, c9, hmd⟩ := HFI.out w2 hq
    obtain ⟨w3, hw3⟩ : ∃ w3, (w2.drew.setCell ⟨p, 2, none⟩ (.int .u32 1)).setCell ⟨p, 3, none⟩ (.int .i32 0) = w3 := ⟨_, rfl⟩
    rw [hw3] at c9 hmd ⊢
    have HMD := Lib.hid hmd
    clear hmd hq hw3
    go_wp2
    go_ret
    exact HMD.out

end Go.Proofs.YtpnboieppkjfnaaGreat

/-
  How many lines are lexed anew: no more than there are.
-/
namespace Go.Proofs.YtpnboieppkjfnaaGreat

theorem Ed.ok {Ts : List (List UInt8)} {fr te : Nat} {l : List UInt8} (he : Ed Ts fr te l) : ∃ E : AE, (E0 Ts fr te ((l.length : Int) - Ts.flatten.length) l).Same E ∧ E.Ok ∧ Ed E.Ts E.fr E.te E.l :=
  ⟨⟨0, fun _ => none, 0, .slice none 0 0, none, some (.leaf ⟨l.toArray⟩), Ts, fr, te, (l.length : Int) - Ts.flatten.length, l, [], (l.length : Int) - Ts.flatten.length⟩, ⟨rfl, rfl, rfl, rfl, rfl⟩,
    ⟨by simp [otext, T.text], rfl, he.old, he.new, .inl rfl, by
      have h1 := he.old
      have h2 := he.new
      show -65536 ≤ (l.length : Int) - Ts.flatten.length ∧ (l.length : Int) - Ts.flatten.length ≤ 65536
      omega⟩, he⟩

/-- The pieces of the new text: some elder ones, those of the part, elder ones. -/
theorem work_rows {Ts : List (List UInt8)} {fr te : Nat} {l : List UInt8} {k : Nat} (he : Ed Ts fr te l) (h : WorkOk Ts fr te l k) :
    ∃ (E : AE) (f n n' : Nat) (Ps : List (List UInt8)), E.Ok ∧ E.Ts = Ts ∧ E.fr = fr ∧ E.te = te ∧ E.l = l ∧ TSpec E f n ∧ LSpec E f n n' ∧ Pcs Ps ∧ Ps.flatten = partN E f n' ∧ k = Ps.length ∧ Pcs (Ts.take f ++ (Ps ++ Ts.drop n')) ∧ (Ts.take f ++ (Ps ++ Ts.drop n')).flatten = l := by
  obtain ⟨E, hs, ho, he2⟩ := he.ok
  obtain ⟨f, n, n', ht, hl, rfl⟩ := h
  have e1 : E.Ts = Ts := hs.Ts.symm
  have e2 : E.fr = fr := hs.fr.symm
  have e3 : E.te = te := hs.te.symm
  have e4 : E.l = l := hs.l.symm
  have ht2 := hs.tspec ht
  have hl2 := hs.lspec hl
  obtain ⟨Ps, h1, h2, h3, h4⟩ := new_pieces ho he2 ht2 hl2
  refine ⟨E, f, n, n', Ps, ho, e1, e2, e3, e4, ht2, hl2, h1, h2, ?_, by rw [← e1]; exact h3, by rw [← e1, ← e4]; exact h4⟩
  rw [hs.part, ← h2, (FL_rows h1).1, List.length_map, rows_len]

theorem work_le {Ts : List (List UInt8)} {fr te : Nat} {l : List UInt8} {k : Nat} (he : Ed Ts fr te l) (h : WorkOk Ts fr te l k) : k ≤ (FL l).lines.length := by
  obtain ⟨E, f, n, n', Ps, -, -, -, -, -, -, -, -, -, rfl, h3, h4⟩ := work_rows he h
  rw [← h4, (FL_rows h3).1, List.length_map, rows_len, List.length_append, List.length_append]
  omega

theorem ed_new (l : List UInt8) (h : l.length ≤ 65536) : Ed [] 0 0 l := ⟨trivial, Nat.le_refl _, Nat.zero_le _, ⟨l, by simp⟩, by simp, h⟩

theorem work_new {l : List UInt8} {k : Nat} (hl : l.length ≤ 65536) (h : WorkOk [] 0 0 l k) : k = (FL l).lines.length := by
  obtain ⟨E, f, n, n', Ps, -, -, -, -, -, -, -, -, -, rfl, h3, h4⟩ := work_rows (ed_new l hl) h
  rw [← h4, (FL_rows h3).1, List.length_map, rows_len, List.length_append, List.length_append]
  simp

end Go.Proofs.YtpnboieppkjfnaaGreat
