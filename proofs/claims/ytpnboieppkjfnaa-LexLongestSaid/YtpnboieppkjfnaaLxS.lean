/-
  span, tell, pass, endLine and take of the project, walked.
-/
import Derived.Test.YtpnboieppkjfnaaLxB
import Derived.RegionTactic
import Derived.BigRegion
import Derived.Deep.RegionWith
import Derived.Deep.RegionHeld3
import Derived.Deep.AppendLies
import Derived.Deep.RegionLaw
namespace Go.Proofs.Ytpnboieppkjfnaa
open Go.RowKit

theorem rnF_of {L : List Rn} {i : Nat} {r : Rn} (h : L[i]? = some r) : rnF L i = r.f := by unfold rnF; rw [h]
theorem rnT_of {L : List Rn} {i : Nat} {r : Rn} (h : L[i]? = some r) : rnT L i = r.t := by unfold rnT; rw [h]

/-- Where the characters are. -/
theorem Big.row {W : World} {g : Nat} {L : List Rn} {c : WC} {B1 : Nat} {P : List (Value × Ln)} {a : Acc} {w : World} (h : Big W g L c B1 P a w) : ∃ ra cap, c.rv = .slice ra L.length cap ∧ L.length ≤ cap ∧ cap ≤ maxLen ∧ ∀ i, i < L.length → ∃ b, ra = some ⟨b, 0, none⟩ ∧ b < w.heap.size ∧ w.cell? ⟨b, i * 3 + 1, none⟩ = some (.int .i64 (rnF L i : Int)) ∧ w.cell? ⟨b, i * 3 + 2, none⟩ = some (.int .i64 (rnT L i : Int)) := by
  have hc : CRow W c.rv L w := ⟨h.runes, h.low⟩
  obtain ⟨ra, cap, hv, h1, h2, h3⟩ := crow_cells hc
  refine ⟨ra, cap, hv, h1, h2, fun i hi => ?_⟩
  obtain ⟨r, hr⟩ : ∃ r, L[i]? = some r := ⟨_, List.getElem?_eq_getElem hi⟩
  obtain ⟨b, hb, hlt, -, e1, e2⟩ := h3 i r hr
  exact ⟨b, hb, hlt, by rw [rnF_of hr]; exact e1, by rw [rnT_of hr]; exact e2⟩

def spanPost (F : ByteArray) (x y : Nat) (w : World) (e : Ending) (w' : World) : Prop :=
  e = .returned (.agg #[.string F, .int .i64 (x : Int), .int .i64 (y : Int)]) ∧ Below w.heap.size w w'

set_option maxRecDepth 100000 in
set_option maxHeartbeats 1600000 in
theorem span_any {W : World} {g : Nat} {L : List Rn} {c : WC} {B1 : Nat} {P : List (Value × Ln)} {a : Acc} {w : World} (h : Big W g L c B1 P a w) (i m : Nat) (x y : Int) (hx : x = (i : Int)) (hy : y = (m : Int) + 1) (hi : i < L.length) (hm : m < L.length) (hL : L.length ≤ 1000000) :
    Calls Try.prog 37 #[.pointer (some ⟨g, 0, none⟩), .int .i64 x, .int .i64 y] w (spanPost c.F (rnF L i) (rnT L m) w) := by
  subst hx hy
  obtain ⟨ra, cap, hv, h1, h2, h3⟩ := h.row
  obtain ⟨b, rfl, hb, f1, -⟩ := h3 i hi
  obtain ⟨b', hb', -, -, f2⟩ := h3 m hm
  simp only [Option.some.injEq, Addr.mk.injEq, and_true] at hb'
  subst hb'
  have k0 := h.blk.k0
  have k2 := h.blk.k2
  rw [hv] at k2
  have hg := h.lt
  have hii : (i : Int) < (L.length : Int) := by omega
  have hi0 : (0 : Int) ≤ (i : Int) := by omega
  have hmi : (m : Int) < (L.length : Int) := by omega
  have hm0 : (0 : Int) ≤ (m : Int) := by omega
  have hgn : g ≠ w.heap.size := by omega
  have hbn : b ≠ w.heap.size := by omega
  clear h h3 hv
  go_enter Try.func37, Try.ntmps37
  go_wp2
  go_region
  go_wp2
  exact bodyPost_ret (v := .agg #[.string c.F, .int .i64 (rnF L i : Int), .int .i64 (rnT L m : Int)]) (by simp [results, Try.results37, go_sem]) rfl ⟨rfl, ((Below.refl _ _).alloc (Nat.le_refl _) _).drew⟩

theorem span_big {W : World} {g : Nat} {L : List Rn} {c : WC} {B1 : Nat} {P : List (Value × Ln)} {a : Acc} {w : World} (h : Big W g L c B1 P a w) (i m : Nat) (x y : Int) (hx : x = (i : Int)) (hy : y = (m : Int) + 1) (hi : i < L.length) (hm : m < L.length) (hL : L.length ≤ 1000000) :
    Calls Try.prog 37 #[.pointer (some ⟨g, 0, none⟩), .int .i64 x, .int .i64 y] w fun e w' => e = .returned (.agg #[.string c.F, .int .i64 (rnF L i : Int), .int .i64 (rnT L m : Int)]) ∧ Big W g L c B1 P a w' :=
  (span_any h i m x y hx hy hi hm hL).mono fun _ _ ⟨he, hb⟩ => ⟨he, h.next hb⟩

/-- The walk at a place, in a state. -/
structure Env where
  W : World
  g : Nat
  L : List Rn
  F : ByteArray
  ch : ByteArray
  sz : Nat

def Was (E : Env) (i st bg : Nat) (a : Acc) (w : World) : Prop :=
  ∃ c B1 P, c.F = E.F ∧ c.ch = E.ch ∧ c.sz = E.sz ∧ c.i = i ∧ c.st = st ∧ c.bg = bg ∧ Big E.W E.g E.L c B1 P a w
def WasPost (E : Env) (i st bg : Nat) (a : Acc) (e : Ending) (w' : World) : Prop := e = .returned (.tuple #[]) ∧ Was E i st bg a w'

theorem step_ex {ops : Array Oper} {o : Oper} {a : Act} {w : World} {K : Act → World → Prop} {Q : Exit → Act → World → Prop} {E : Prop} (hgd : o.guard = none) (s x : Operand) (t : TypeId)
    (ho : o.op = .call { callee := .builtin .append, args := #[s, x], argTypes := #[t, t] }) (R : Nat → Nat → Nat → World → Prop) (d v : Value) (hs : a.eval s = d) (hx : a.eval x = v)
    (h : ∃ b n cap w', (Builtin.append_ #[t, t] o.type #[d, v]).run Try.prog w = .ok (.slice (some ⟨b, 0, none⟩) n cap) w' ∧ R b n cap w') (hK : ∀ b n cap w', R b n cap w' → K (a.put o.dst (.slice (some ⟨b, 0, none⟩) n cap)) w') :
    if Region.wanted o (yielded ops a.tmps) = true then Oper.wp Try.prog o a w K Q else E := by
  have hw : Region.wanted o (yielded ops a.tmps) = true := by simp [Region.wanted, hgd]
  rw [if_pos hw]
  obtain ⟨b, n, cap, w', hr, hR⟩ := h
  unfold Oper.wp execOp
  simp only [ho, resolve, invoke, builtin, Sem.run_bind, Sem.run_pure, Result.andThen_ok, List.map_toArray, List.map_cons, List.map_nil, hs, hx, hr]
  exact hK b n cap w' hR

theorem Big.pushD2 {W : World} {g : Nat} {L : List Rn} {c : WC} {B1 : Nat} {P : List (Value × Ln)} {a : Acc} {w : World} {ty : TypeId} {d0 sv : Value} (h : Big W g L c B1 P a w) (hv : c.dv = d0) (d : Dg) (hs : Src w sv 1 4 (dcell c.F d)) (hn : a.diags.length ≤ 500000) :
    ∃ b n cap w', (Builtin.append_ #[24, 24] ty #[d0, sv]).run Try.prog w = .ok (.slice (some ⟨b, 0, none⟩) n cap) w' ∧ PushD W g L c B1 P { a with diags := a.diags ++ [d] } b n cap w' := hv ▸ h.pushD d hs hn
theorem Big.pushT2 {W : World} {g : Nat} {L : List Rn} {c : WC} {B1 : Nat} {P : List (Value × Ln)} {a : Acc} {w : World} {ty : TypeId} {d0 sv : Value} (h : Big W g L c B1 P a w) (hv : c.tv = d0) (t : Tk) (hs : Src w sv 1 8 (tcell c.F t)) (hn : a.toks.length ≤ 500000) :
    ∃ b n cap w', (Builtin.append_ #[34, 34] ty #[d0, sv]).run Try.prog w = .ok (.slice (some ⟨b, 0, none⟩) n cap) w' ∧ PushT W g L c B1 P { a with toks := a.toks ++ [t] } b n cap w' := hv ▸ h.pushT t hs hn
theorem Big.pushL2 {W : World} {g : Nat} {L : List Rn} {c : WC} {B1 : Nat} {P : List (Value × Ln)} {a : Acc} {w : World} {ty : TypeId} {d0 d1 sv : Value} (h : Big W g L c B1 P a w) (hv : c.lv = d0) (ht : c.tv = d1) (to : Nat) (o : Bool) (hs : Src w sv 1 4 (lcell (d1, ⟨a.toks, a.fr, to, o⟩))) (hn : a.lines.length ≤ 500000) :
    ∃ b n cap w', (Builtin.append_ #[23, 23] ty #[d0, sv]).run Try.prog w = .ok (.slice (some ⟨b, 0, none⟩) n cap) w' ∧ PushL W g L c (endA a to o) to b n cap w' := by
  subst hv ht
  exact h.pushL to o hs hn

theorem heap_drew {w : World} {b : Nat} {o : Option Obj} (h : w.heap[b]? = o) : w.drew.heap[b]? = o := h

set_option maxRecDepth 100000 in
set_option maxHeartbeats 3200000 in
theorem tell_any {E : Env} {i st bg : Nat} {a : Acc} {w : World} (h : Was E i st bg a w) (code f m : Nat) (x y : Int) (hx : x = (f : Int)) (hy : y = (m : Int) + 1) (hf : f < E.L.length) (hm : m < E.L.length) (hL : E.L.length ≤ 1000000) (hd : a.diags.length ≤ 500000) :
    Calls Try.prog 19 #[.pointer (some ⟨E.g, 0, none⟩), .int .i64 (code : Int), .int .i64 x, .int .i64 y] w (WasPost E i st bg (tellA E.L a code f (m + 1))) := by
  obtain ⟨c, B1, P, e1, e2, e3, e4, e5, e6, hb⟩ := h
  have HB := Lib.hid hb
  have k11 := hb.blk.k11
  obtain ⟨da, dcap, hdv, -⟩ := row_form hb.diags
  rw [hdv] at k11
  have HX := Lib.hid hx
  have HY := Lib.hid hy
  have HP : Hid (∀ (b n cap : Nat) (w' : World), PushD E.W E.g E.L c B1 P { a with diags := a.diags ++ [⟨code, rnF E.L f, rnT E.L m⟩] } b n cap w' → Was E i st bg (tellA E.L a code f (m + 1)) (w'.setCell ⟨E.g, 11, none⟩ (.slice (some ⟨b, 0, none⟩) n cap))) := Lib.hid (by
    rintro b n cap w' ⟨-, h4⟩
    exact ⟨{ c with dv := .slice (some ⟨b, 0, none⟩) n cap }, B1, P, e1, e2, e3, e4, e5, e6, h4⟩)
  have HDV := Lib.hid hdv
  clear hb e1 e2 e3 e4 e5 e6 hx hy hdv
  go_enter Try.func19, Try.ntmps19
  go_wp2
  go_region_law (first
    | (go_simp; go_at_call 37; refine (span_big (W := E.W) (g := E.g) (L := E.L) (c := c) (B1 := B1) (P := P) (a := a) ?_ f m x y HX.out HY.out hf hm hL).mono ?_
       · (repeat first | (with_reducible apply Big.drew) | (with_reducible apply Big.alloc)); (with_reducible exact HB.out)
       rintro e w3 ⟨rfl, h3⟩
       have HB3 := Lib.hid h3
       have k113 := h3.blk.k11
       rw [HDV.out] at k113
       have hlt3 := h3.lt
       have hne3 : E.g ≠ w3.heap.size := by omega
       clear h3)
    | (refine step_ex rfl (.tmp 12) (.tmp 19) 24 rfl _ _ _ rfl rfl (Big.pushD2 (W := E.W) (g := E.g) (L := E.L) (c := c) (B1 := B1) (P := P) (a := a) ?_ HDV.out ⟨code, rnF E.L f, rnT E.L m⟩ ?_ hd) ?_
       · (repeat first | (with_reducible apply Big.drew) | (with_reducible apply Big.alloc)); (with_reducible exact HB3.out)
       · exact src_row (heap_drew (heap_alloc_new _ _)) rfl rfl
       intro b n cap w4 hp
       have HP2 := Lib.hid (HP.out b n cap w4 hp)
       have k11' := hp.1.k11
       have z11' := hp.1.free 11
       clear hp))
  all_goals go_wp2
  all_goals go_end0
  all_goals exact ⟨rfl, HP2.out⟩

end Go.Proofs.Ytpnboieppkjfnaa
