/-
  weave: two trees with a text between.
-/
import Derived.Test.YtfjdfdpelilelaaDoorCutAny
import Derived.Test.YtfjdfdpelilelaaDoorGrow
namespace Go.Proofs.YtfjdfdpelilelaaDoor
open Go.RowKit

theorem cut_zero {B : Nat} {M : Mp} {w : World} (h : Inv B [] M w) {p : Option Addr} {o : Option T} (hp : PT M p o) :
    Calls Tryd.prog 86 #[.pointer p, .int .i64 0] w (CutMade B M w (otext o) 0 (odepth o ≤ 1)) := cut_any h hp 0 (Nat.zero_le _)

theorem bsize (s : ByteArray) : s.data.toList.length = s.size := by simp

/-- No sum of lengths that is no int. -/
theorem fits {a b : ByteArray} (h : a.size + b.size ≤ 2000000) : (a.size + b.size > 9223372036854775807) = False := by
  apply propext
  constructor
  · intro h1; omega
  · intro h1; exact h1.elim

theorem tail_size {tl : ByteArray} {ob : Option T} {x : List UInt8} {k : Nat} (h : tl.data.toList ++ otext ob = x.drop k) : tl.size + osize ob = x.length - k := by
  have e := congrArg List.length h
  rw [List.length_append, bsize, ← osize_eq, List.length_drop] at e
  exact e

theorem head_size {hd : ByteArray} {oa : Option T} {x : List UInt8} {k : Nat} (h : otext oa ++ hd.data.toList = x.take k) : osize oa + hd.size = min k x.length := by
  have e := congrArg List.length h
  rw [List.length_append, bsize, ← osize_eq, List.length_take] at e
  exact e

theorem St.drewN {B : Nat} {M M' : Mp} {w w' : World} (s : St B M w M' w') (n : Nat) : St B M w M' (w'.drewN n) :=
  ⟨s.inv.ali rfl, s.ext, ⟨s.fr.os, s.fr.tape, s.fr.output, s.fr.size, s.fr.block, s.fr.low⟩⟩

theorem St.boxed {B : Nat} {M M' : Mp} {w w' : World} (s : St B M w M' w') (o : Obj) : St B M w M' (w'.alloc o) :=
  s.trans (St.below s.inv ((Below.refl _ w').alloc (Nat.le_refl _) _))

/-- Where the ways meet behind the first if. -/
def W1 (B : Nat) (M : Mp) (w : World) (s : ByteArray) (u : Option T) (v1 v2 : Value) (wx : World) : Prop :=
  ∃ (m : ByteArray) (pb : Option Addr) (ob : Option T) (M1 : Mp), v1 = .string m ∧ v2 = .pointer pb ∧ PT M1 pb ob ∧ m.data.toList ++ otext ob = s.data.toList ++ otext u ∧ (u = none → ob = none) ∧ St B M w M1 wx

/-- .. and behind the second. -/
def W2 (B : Nat) (M : Mp) (w : World) (x : List UInt8) (o u : Option T) (pb : Option Addr) (v0 v1 : Value) (wx : World) : Prop :=
  ∃ (m : ByteArray) (pa : Option Addr) (oa ob : Option T) (M1 : Mp), v1 = .string m ∧ v0 = .pointer pa ∧ PT M1 pa oa ∧ PT M1 pb ob ∧ otext oa ++ (m.data.toList ++ otext ob) = x ∧ (o = none → u = none → oa = none ∧ ob = none) ∧ St B M w M1 wx

theorem toList_append (a b : ByteArray) : (a ++ b).data.toList = a.data.toList ++ b.data.toList := by simp


set_option maxHeartbeats 1600000 in
set_option maxRecDepth 100000 in
theorem weave_any {B : Nat} {M : Mp} {w : World} (h : Inv B [] M w) {p q : Option Addr} {o u : Option T} (hp : PT M p o) (hq : PT M q u) (s : ByteArray) (hs : osize o + s.size + osize u ≤ lim) :
    Calls Tryd.prog 87 #[.pointer p, .string s, .pointer q] w (TextMade B M w (otext o ++ (s.data.toList ++ otext u)) (fun v => o = none → u = none → s.size ≤ 256 → odepth v ≤ 1)) := by
  have H := Lib.hid h
  have HP := Lib.hid hp
  have HQ := Lib.hid hq
  have hs' := hs
  unfold lim at hs'
  clear h hp hq hs
  go_enter Tryd.func87, Tryd.ntmps87
  go_upto_if 11 with fail
  go_cut [1, 2] (W1 B M w s u)
  case first =>
    by_cases hlt : s.size < 128
    · go_wp2_with (go_at_call 86; refine (cut_zero H.out HQ.out).mono ?_; rintro e w1 ⟨oa, ob, hd, tl, pa, pb, M1, rfl, qa, qb, x1, x2, hz, s1⟩; have QB := Lib.hid qb; have X2 := Lib.hid x2; have S1 := Lib.hid s1; have HZ := Lib.hid hz; have hts := tail_size x2; rw [← osize_eq] at hts; have hcat := fits (a := s) (b := tl) (by omega); clear qa qb x1 x2 s1 hz hts)
      go_quiet (fail)
      go_wp2_with fail
      go_meet
      exact ⟨s ++ tl, pb, ob, M1, rfl, rfl, QB.out, by rw [toList_append, List.append_assoc, X2.out, List.drop_zero], fun h => (HZ.out (by rw [h]; exact Nat.zero_le _)).2, (S1.out.boxed _).drewN _⟩
    · go_wp2
      go_meet
      exact ⟨s, q, u, M, rfl, rfl, HQ.out, rfl, fun h => h, St.refl H.out⟩
  case rest =>
    obtain ⟨m, pb, ob, M1, rfl, rfl, qb, hx, hz, s1⟩ := hcut
    have hsz : m.size + osize ob = s.size + osize u := by
      have e := congrArg List.length hx
      rw [List.length_append, List.length_append, bsize, bsize, ← osize_eq, ← osize_eq] at e
      exact e
    have QB := Lib.hid qb
    have HX := Lib.hid hx
    have HZ := Lib.hid hz
    have S1 := Lib.hid s1
    have HP1 := Lib.hid (s1.pt H.out HP.out)
    have hm : m.size ≤ 1000000 := by omega
    have HSZ := Lib.hid hsz
    clear qb hx hz s1 hsz
    go_upto_if 22 with fail
    go_cut [0, 1] (W2 B M w (otext o ++ (s.data.toList ++ otext u)) o u pb)
    case first =>
      by_cases hlt : m.size < 128
      · go_wp2_with (first
          | (go_at_call 66; refine (length_any S1.out.inv HP1.out).mono ?_; rintro e w' ⟨rfl, rfl⟩)
          | (go_at_call 86; refine (cut_any S1.out.inv HP1.out (osize o) (Nat.le_refl _)).mono ?_; rintro e w2 ⟨oa, oc, hd, tl, pa, pc, M2, rfl, qa, qc, x1, x2, hz, s2⟩; have QA := Lib.hid qa; have X1 := Lib.hid x1; have S2 := Lib.hid s2; have HZ2 := Lib.hid hz; have hts := head_size x1; rw [← osize_eq, Nat.min_self] at hts; have hcat := fits (a := hd) (b := m) (by omega); clear qa qc x1 x2 s2 hz hts))
        go_quiet (fail)
        go_wp2_with fail
        go_meet
        exact ⟨hd ++ m, pa, oa, ob, M2, rfl, rfl, QA.out, S2.out.pt S1.out.inv QB.out, by
          rw [toList_append, List.append_assoc, HX.out, ← List.append_assoc, X1.out, osize_eq, List.take_length], fun h1 h2 => ⟨(HZ2.out (by rw [h1]; exact Nat.zero_le _)).1, HZ.out h2⟩, ((S1.out.trans S2.out).boxed _).drewN _⟩
      · go_wp2
        go_meet
        exact ⟨m, p, o, ob, M1, rfl, rfl, HP1.out, QB.out, by rw [HX.out], fun h1 h2 => ⟨h1, HZ.out h2⟩, S1.out⟩
    case rest =>
      obtain ⟨m2, pa, oa, ob2, M2, rfl, rfl, qa, qb, hx, hz, s2⟩ := hcut
      have hsz : osize oa + (m2.size + osize ob2) = osize o + (s.size + osize u) := by
        have e := congrArg List.length hx
        simp only [List.length_append, bsize, ← osize_eq] at e
        exact e
      have QA := Lib.hid qa
      have QB2 := Lib.hid qb
      have HX2 := Lib.hid hx
      have HZ2 := Lib.hid hz
      have S2 := Lib.hid s2
      have HSZ2 := Lib.hid hsz
      clear qa qb hx hz s2 hsz
      go_wp2_with fail
      refine (grow_any m2.size m2 rfl (by have := HSZ2.out; unfold lim; omega) M2 _ S2.out.inv).mono ?_
      rintro e w3 ⟨og, g, M3, pg, rfl, qg, s3⟩
      have G := Lib.hid g
      have QG := Lib.hid qg
      have S3 := Lib.hid s3
      have hgs : osize og = m2.size := by rw [osize_eq, g.1, bsize]
      have HGS := Lib.hid hgs
      clear g qg s3 hgs
      go_wp2_with fail
      refine (join_any S3.out.inv (S3.out.pt S2.out.inv QA.out) QG.out (by have := HSZ2.out; have := HGS.out; unfold lim; omega)).mono ?_
      rintro e w4 ⟨oj, pj, M4, rfl, xj, hj, qj, s4⟩
      have XJ := Lib.hid xj
      have HJ := Lib.hid hj
      have QJ := Lib.hid qj
      have S4 := Lib.hid s4
      have hjs : osize oj = osize oa + m2.size := by rw [osize_eq, xj, List.length_append, ← osize_eq, ← osize_eq, HGS.out]
      have HJS := Lib.hid hjs
      clear xj hj qj s4 hjs
      go_wp2_with fail
      refine (join_any S4.out.inv QJ.out ((S3.out.trans S4.out).pt S2.out.inv QB2.out) (by have := HSZ2.out; have := HJS.out; unfold lim; omega)).mono ?_
      rintro e w5 ⟨ok, pk, M5, rfl, xk, hk, qk, s5⟩
      have XK := Lib.hid xk
      have HK := Lib.hid hk
      have QK := Lib.hid qk
      have S5 := Lib.hid s5
      clear xk hk qk s5
      go_wp2_with fail
      go_ret
      refine ⟨ok, pk, M5, rfl, by rw [XK.out, XJ.out, G.out.1, List.append_assoc, HX2.out], fun h1 h2 h3 => ?_, QK.out, ((S2.out.trans S3.out).trans S4.out).trans S5.out⟩
      obtain ⟨z1, z2⟩ := HZ2.out h1 h2
      have e1 : oj = og := HJ.out.1 z1
      have e2 : ok = oj := HK.out.2 z2
      rw [e2, e1]
      refine G.out.2.2 ?_
      have := HSZ2.out
      rw [z1, z2, h1, h2] at this
      simp only [osize] at this
      omega

end Go.Proofs.YtfjdfdpelilelaaDoor
