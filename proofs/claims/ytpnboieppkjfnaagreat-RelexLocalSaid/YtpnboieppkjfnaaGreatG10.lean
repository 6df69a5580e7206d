/-
  Texts of the proof, put together: CutAny, Weave, New, Replace.
-/
import Derived.Test.YtpnboieppkjfnaaGreatG09
import Derived.Test.YtpnboieppkjfnaaGreatG07

/-
  cutAt, whole.
-/
namespace Go.Proofs.YtpnboieppkjfnaaGreat
open Go.RowKit

theorem cut_all {B : Nat} : ∀ n, CBelow B n := by
  intro n
  induction n with
  | zero => intro t hn; omega
  | succ n ih =>
  intro t hn M w h b hb k hk
  cases t with
  | leaf s =>
    refine (cut_leaf h hb k hk).mono ?_
    rintro e w' ⟨oa, ob, hd, tl, pa, pb, M', he, qa, qb, x1, x2, hq, s⟩
    exact ⟨oa, ob, hd, tl, pa, pb, M', he, qa, qb, x1, x2, fun _ => hq trivial, s⟩
  | node l r =>
    have ih' : CBelow B (T.node l r).nn := fun u hu => ih u (by omega)
    have key : Calls Tryz.prog 64 #[.pointer (some ⟨b, 0, none⟩), .int .i64 (k : Int)] w (CutMade B M w (l.text ++ r.text) k False) := by
      by_cases hlt : k < l.size
      · exact cut_node_left h hb ih' k hlt
      · exact cut_node_right h hb ih' k (by omega) hk
    refine key.mono ?_
    rintro e w' ⟨oa, ob, hd, tl, pa, pb, M', he, qa, qb, x1, x2, -, s⟩
    exact ⟨oa, ob, hd, tl, pa, pb, M', he, qa, qb, x1, x2, fun h => by simp [isLeafB] at h, s⟩

theorem cut_any {B : Nat} {M : Mp} {w : World} (h : Inv B [] M w) {p : Option Addr} {o : Option T} (hp : PT M p o) (k : Nat) (hk : k ≤ osize o) :
    Calls Tryz.prog 64 #[.pointer p, .int .i64 (k : Int)] w (CutMade B M w (otext o) k (odepth o ≤ 1)) := by
  rcases hp with ⟨rfl, rfl⟩ | ⟨b, t, rfl, rfl, hb⟩
  · have bel : Below w.heap.size w (w.alloc zeroCut) := (Below.refl _ w).alloc (Nat.le_refl _) _
    have S0 := Lib.hid (St.below h bel)
    clear h bel hk
    go_enter Tryz.func64, Tryz.ntmps64
    go_wp2
    refine bodyPost_ret (v := .agg #[.pointer none, .pointer none, .string ⟨#[]⟩, .string ⟨#[]⟩]) (by simp [results, Tryz.results64, go_sem]) rfl ?_
    exact ⟨none, none, ⟨#[]⟩, ⟨#[]⟩, none, none, M, rfl, .inl ⟨rfl, rfl⟩, .inl ⟨rfl, rfl⟩, by simp [otext], by simp [otext], fun _ => ⟨rfl, rfl⟩, S0.out⟩
  · refine (cut_all (t.nn + 1) t (by omega) M w h b hb k hk).mono ?_
    rintro e w' ⟨oa, ob, hd, tl, pa, pb, M', he, qa, qb, x1, x2, hq, s⟩
    refine ⟨oa, ob, hd, tl, pa, pb, M', he, qa, qb, x1, x2, fun hd => hq ?_, s⟩
    cases t with
    | leaf _ => rfl
    | node l r =>
      have := l.depth_pos
      simp only [odepth, T.depth] at hd
      omega

end Go.Proofs.YtpnboieppkjfnaaGreat

/-
  weave: two trees with a text between.
-/
namespace Go.Proofs.YtpnboieppkjfnaaGreat
open Go.RowKit

theorem cut_zero {B : Nat} {M : Mp} {w : World} (h : Inv B [] M w) {p : Option Addr} {o : Option T} (hp : PT M p o) :
    Calls Tryz.prog 64 #[.pointer p, .int .i64 0] w (CutMade B M w (otext o) 0 (odepth o ≤ 1)) := cut_any h hp 0 (Nat.zero_le _)

theorem bsize (s : ByteArray) : s.data.toList.length = s.size := by simp

/-- No sum of lengths that is no int. -/
theorem fits {a b : ByteArray} (h : a.size + b.size ≤ 2000000) : (a.size + b.size > 9223372036854775807) = False := by
  apply propext
  constructor
  · intro h1; omega
  · intro h1; exact h1.elim

theorem tail_size {tl : ByteArray} {ob : Option T} {x : List UInt8} {k : Nat} (h : tl.data.toList ++ otext ob = x.drop k) : tl.size + osize ob = x.length - k := by
  have e := congrArg List.length h
  rw [List.length_append, bsize, ← osize_eq, List.length_drop] at e
  exact e

theorem head_size {hd : ByteArray} {oa : Option T} {x : List UInt8} {k : Nat} (h : otext oa ++ hd.data.toList = x.take k) : osize oa + hd.size = min k x.length := by
  have e := congrArg List.length h
  rw [List.length_append, bsize, ← osize_eq, List.length_take] at e
  exact e

theorem St.drewN {B : Nat} {M M' : Mp} {w w' : World} (s : St B M w M' w') (n : Nat) : St B M w M' (w'.drewN n) :=
  ⟨s.inv.ali rfl, s.ext, ⟨s.fr.os, s.fr.tape, s.fr.output, s.fr.size, s.fr.block, s.fr.low⟩⟩

theorem St.boxed {B : Nat} {M M' : Mp} {w w' : World} (s : St B M w M' w') (o : Obj) : St B M w M' (w'.alloc o) :=
  s.trans (St.below s.inv ((Below.refl _ w').alloc (Nat.le_refl _) _))

/-- Where the ways meet behind the first if. -/
def W1 (B : Nat) (M : Mp) (w : World) (s : ByteArray) (u : Option T) (v1 v2 : Value) (wx : World) : Prop :=
  ∃ (m : ByteArray) (pb : Option Addr) (ob : Option T) (M1 : Mp), v1 = .string m ∧ v2 = .pointer pb ∧ PT M1 pb ob ∧ m.data.toList ++ otext ob = s.data.toList ++ otext u ∧ (u = none → ob = none) ∧ St B M w M1 wx

/-- .. and behind the second. -/
def W2 (B : Nat) (M : Mp) (w : World) (x : List UInt8) (o u : Option T) (pb : Option Addr) (v0 v1 : Value) (wx : World) : Prop :=
  ∃ (m : ByteArray) (pa : Option Addr) (oa ob : Option T) (M1 : Mp), v1 = .string m ∧ v0 = .pointer pa ∧ PT M1 pa oa ∧ PT M1 pb ob ∧ otext oa ++ (m.data.toList ++ otext ob) = x ∧ (o = none → u = none → oa = none ∧ ob = none) ∧ St B M w M1 wx

theorem toList_append (a b : ByteArray) : (a ++ b).data.toList = a.data.toList ++ b.data.toList := by simp


set_option maxHeartbeats 1600000 in
set_option maxRecDepth 100000 in
theorem weave_any {B : Nat} {M : Mp} {w : World} (h : Inv B [] M w) {p q : Option Addr} {o u : Option T} (hp : PT M p o) (hq : PT M q u) (s : ByteArray) (hs : osize o + s.size + osize u ≤ lim) :
    Calls Tryz.prog 65 #[.pointer p, .string s, .pointer q] w (TextMade B M w (otext o ++ (s.data.toList ++ otext u)) (fun v => o = none → u = none → s.size ≤ 256 → odepth v ≤ 1)) := by
  have H := Lib.hid h
  have HP := Lib.hid hp
  have HQ := Lib.hid hq
  have hs' := hs
  unfold lim at hs'
  clear h hp hq hs
  go_enter Tryz.func65, Tryz.ntmps65
  go_upto_if 11 with fail
  go_cut [1, 2] (W1 B M w s u)
  case first =>
    by_cases hlt : s.size < 128
    · go_wp2_with (go_at_call 64; refine (cut_zero H.out HQ.out).mono ?_; rintro e w1 ⟨oa, ob, hd, tl, pa, pb, M1, rfl, qa, qb, x1, x2, hz, s1⟩; have QB := Lib.hid qb; have X2 := Lib.hid x2; have S1 := Lib.hid s1; have HZ := Lib.hid hz; have hts := tail_size x2; rw [← osize_eq] at hts; have hcat := fits (a := s) (b := tl) (by omega); clear qa qb x1 x2 s1 hz hts)
      go_quiet (fail)
      go_wp2_with fail
      go_meet
      exact ⟨s ++ tl, pb, ob, M1, rfl, rfl, QB.out, by rw [toList_append, List.append_assoc, X2.out, List.drop_zero], fun h => (HZ.out (by rw [h]; exact Nat.zero_le _)).2, (S1.out.boxed _).drewN _⟩
    · go_wp2
      go_meet
      exact ⟨s, q, u, M, rfl, rfl, HQ.out, rfl, fun h => h, St.refl H.out⟩
  case rest =>
    obtain ⟨m, pb, ob, M1, rfl, rfl, qb, hx, hz, s1⟩ := hcut
    have hsz : m.size + osize ob = s.size + osize u := by
      have e := congrArg List.length hx
      rw [List.length_append, List.length_append, bsize, bsize, ← osize_eq, ← osize_eq] at e
      exact e
    have QB := Lib.hid qb
    have HX := Lib.hid hx
    have HZ := Lib.hid hz
    have S1 := Lib.hid s1
    have HP1 := Lib.hid (s1.pt H.out HP.out)
    have hm : m.size ≤ 1000000 := by omega
    have HSZ := Lib.hid hsz
    clear qb hx hz s1 hsz
    go_upto_if 22 with fail
    go_cut [0, 1] (W2 B M w (otext o ++ (s.data.toList ++ otext u)) o u pb)
    case first =>
      by_cases hlt : m.size < 128
      · go_wp2_with (first
          | (go_at_call 63; refine (length_any S1.out.inv HP1.out).mono ?_; rintro e w' ⟨rfl, rfl⟩)
          | (go_at_call 64; refine (cut_any S1.out.inv HP1.out (osize o) (Nat.le_refl _)).mono ?_; rintro e w2 ⟨oa, oc, hd, tl, pa, pc, M2, rfl, qa, qc, x1, x2, hz, s2⟩; have QA := Lib.hid qa; have X1 := Lib.hid x1; have S2 := Lib.hid s2; have HZ2 := Lib.hid hz; have hts := head_size x1; rw [← osize_eq, Nat.min_self] at hts; have hcat := fits (a := hd) (b := m) (by omega); clear qa qc x1 x2 s2 hz hts))
        go_quiet (fail)
        go_wp2_with fail
        go_meet
        exact ⟨hd ++ m, pa, oa, ob, M2, rfl, rfl, QA.out, S2.out.pt S1.out.inv QB.out, by
          rw [toList_append, List.append_assoc, HX.out, ← List.append_assoc, X1.out, osize_eq, List.take_length], fun h1 h2 => ⟨(HZ2.out (by rw [h1]; exact Nat.zero_le _)).1, HZ.out h2⟩, ((S1.out.trans S2.out).boxed _).drewN _⟩
      · go_wp2
        go_meet
        exact ⟨m, p, o, ob, M1, rfl, rfl, HP1.out, QB.out, by rw [HX.out], fun h1 h2 => ⟨h1, HZ.out h2⟩, S1.out⟩
    case rest =>
      obtain ⟨m2, pa, oa, ob2, M2, rfl, rfl, qa, qb, hx, hz, s2⟩ := hcut
      have hsz : osize oa + (m2.size + osize ob2) = osize o + (s.size + osize u) := by
        have e := congrArg List.length hx
        simp only [List.length_append, bsize, ← osize_eq] at e
        exact e
      have QA := Lib.hid qa
      have QB2 := Lib.hid qb
      have HX2 := Lib.hid hx
      have HZ2 := Lib.hid hz
      have S2 := Lib.hid s2
      have HSZ2 := Lib.hid hsz
      clear qa qb hx hz s2 hsz
      go_wp2_with fail
      refine (grow_any m2.size m2 rfl (by have := HSZ2.out; unfold lim; omega) M2 _ S2.out.inv).mono ?_
      rintro e w3 ⟨og, g, M3, pg, rfl, qg, s3⟩
      have G := Lib.hid g
      have QG := Lib.hid qg
      have S3 := Lib.hid s3
      have hgs : osize og = m2.size := by rw [osize_eq, g.1, bsize]
      have HGS := Lib.hid hgs
      clear g qg s3 hgs
      go_wp2_with fail
      refine (join_any S3.out.inv (S3.out.pt S2.out.inv QA.out) QG.out (by have := HSZ2.out; have := HGS.out; unfold lim; omega)).mono ?_
      rintro e w4 ⟨oj, pj, M4, rfl, xj, hj, qj, s4⟩
      have XJ := Lib.hid xj
      have HJ := Lib.hid hj
      have QJ := Lib.hid qj
      have S4 := Lib.hid s4
      have hjs : osize oj = osize oa + m2.size := by rw [osize_eq, xj, List.length_append, ← osize_eq, ← osize_eq, HGS.out]
      have HJS := Lib.hid hjs
      clear xj hj qj s4 hjs
      go_wp2_with fail
      refine (join_any S4.out.inv QJ.out ((S3.out.trans S4.out).pt S2.out.inv QB2.out) (by have := HSZ2.out; have := HJS.out; unfold lim; omega)).mono ?_
      rintro e w5 ⟨ok, pk, M5, rfl, xk, hk, qk, s5⟩
      have XK := Lib.hid xk
      have HK := Lib.hid hk
      have QK := Lib.hid qk
      have S5 := Lib.hid s5
      clear xk hk qk s5
      go_wp2_with fail
      go_ret
      refine ⟨ok, pk, M5, rfl, by rw [XK.out, XJ.out, G.out.1, List.append_assoc, HX2.out], fun h1 h2 h3 => ?_, QK.out, ((S2.out.trans S3.out).trans S4.out).trans S5.out⟩
      obtain ⟨z1, z2⟩ := HZ2.out h1 h2
      have e1 : oj = og := HJ.out.1 z1
      have e2 : ok = oj := HK.out.2 z2
      rw [e2, e1]
      refine G.out.2.2 ?_
      have := HSZ2.out
      rw [z1, z2, h1, h2] at this
      simp only [osize] at this
      omega

end Go.Proofs.YtpnboieppkjfnaaGreat

/-
  New: a rope of a text.
-/
namespace Go.Proofs.YtpnboieppkjfnaaGreat
open Go.RowKit

/-- A rope has been made: not nil, of a tree as P says. -/
def RopeMade (B : Nat) (M : Mp) (w : World) (P : Option T → Prop) (e : Ending) (w' : World) : Prop :=
  ∃ M' b o, e = .returned (.tuple #[.pointer (some ⟨b, 0, none⟩), .int .i64 0]) ∧ RP M' w' (some ⟨b, 0, none⟩) o ∧ P o ∧ St B M w M' w'

theorem rope_box {B : Nat} {M M1 : Mp} {w w1 : World} (s : St B M w M1 w1) {p : Option Addr} {o : Option T} (hp : PT M1 p o) :
    RP M1 (w1.alloc (.cells #[.pointer p] 93)) (some ⟨w1.heap.size, 0, none⟩) o ∧ St B M w M1 (w1.alloc (.cells #[.pointer p] 93)) := by
  have bel : Below w1.heap.size w1 (w1.alloc (.cells #[.pointer p] 93)) := (Below.refl _ w1).alloc (Nat.le_refl _) _
  exact ⟨.inr ⟨w1.heap.size, p, rfl, s.inv.gone (Nat.le_refl _), heap_alloc_new w1 _, hp⟩, s.trans (St.below s.inv bel)⟩

theorem new_any {B : Nat} {M : Mp} {w : World} (h : Inv B [] M w) (s : ByteArray) (hs : s.size ≤ 65536) :
    Calls Tryz.prog 16 #[.string s] w (RopeMade B M w (GrownT s)) := by
  have H := Lib.hid h
  clear h
  go_enter Tryz.func16, Tryz.ntmps16
  go_wp2_with (go_at_call 30; refine (grow_any s.size s rfl (by unfold lim; omega) M _ H.out).mono ?_; rintro e w1 ⟨o, g, M1, p, rfl, hp, s1⟩; have G := Lib.hid g; have HP := Lib.hid hp; have S1 := Lib.hid s1; clear g hp s1)
  have hfin := rope_box S1.out HP.out
  have HF := Lib.hid hfin
  clear hfin
  go_ret2
  exact ⟨M1, _, o, rfl, HF.out.1, G.out, HF.out.2⟩

theorem new_no (s : ByteArray) (w : World) (hs : 65536 < s.size) (hs2 : s.size ≤ 1000000) :
    Calls Tryz.prog 16 #[.string s] w fun e w' => e = .returned (.tuple #[.pointer none, .int .i64 4]) ∧ w = w' := by
  go_enter Tryz.func16, Tryz.ntmps16
  go_wp2
  go_ret2
  exact ⟨rfl, rfl⟩

end Go.Proofs.YtpnboieppkjfnaaGreat

/-
  replace, Insert, Delete.
-/
namespace Go.Proofs.YtpnboieppkjfnaaGreat
open Go.RowKit

/-- What is asked of the new text's tree. -/
def Replaced (o : Option T) (i j : Nat) (s : ByteArray) (v : Option T) : Prop :=
  otext v = (otext o).take i ++ (s.data.toList ++ (otext o).drop j) ∧ (odepth o ≤ 1 → osize v ≤ 256 → odepth v ≤ 1)

def RopePtr (B : Nat) (M : Mp) (w : World) (P : Option T → Prop) (e : Ending) (w' : World) : Prop :=
  ∃ M' b o, e = .returned (.pointer (some ⟨b, 0, none⟩)) ∧ RP M' w' (some ⟨b, 0, none⟩) o ∧ P o ∧ St B M w M' w'

set_option maxHeartbeats 1600000 in
set_option maxRecDepth 100000 in
theorem replace_any {B : Nat} {M : Mp} {w : World} (h : Inv B [] M w) {r : Option Addr} {o : Option T} (hr : RP M w r o) (i j : Nat) (s : ByteArray) (hij : i ≤ j) (hj : j ≤ osize o) (hs : i + s.size + (osize o - j) ≤ lim) :
    Calls Tryz.prog 42 #[.pointer r, .int .i64 (i : Int), .int .i64 (j : Int), .string s] w (RopePtr B M w (Replaced o i j s)) := by
  have hle := (hr.le h).2
  have H := Lib.hid h
  have HR := Lib.hid hr
  unfold lim at hs hle
  clear h hr
  go_enter Tryz.func42, Tryz.ntmps42
  go_wp2_with fail
  refine (top_any HR.out).mono ?_
  rintro e w' ⟨⟨p, rfl, hp⟩, rfl⟩
  have HP := Lib.hid hp
  clear hp
  go_wp2_with fail
  refine (cut_any H.out HP.out i (by omega)).mono ?_
  rintro e w1 ⟨oa, oa', hd, tl', pa, pa', M1, rfl, qa, qa', x1, x1', hz1, s1⟩
  have HR1 := Lib.hid (HR.out.step H.out s1)
  have QA := Lib.hid qa
  have X1 := Lib.hid x1
  have HZ1 := Lib.hid hz1
  have S1 := Lib.hid s1
  have hsz1 := head_size x1
  rw [← osize_eq] at hsz1
  have HS1 := Lib.hid hsz1
  clear qa qa' x1 x1' hz1 s1 hsz1
  go_wp2_with fail
  refine (top_any HR1.out).mono ?_
  rintro e w' ⟨⟨p', rfl, hp⟩, rfl⟩
  have HP' := Lib.hid hp
  clear hp
  go_wp2_with fail
  refine (cut_any S1.out.inv HP'.out j hj).mono ?_
  rintro e w2 ⟨ob', ob, hd', tl, pb', pb, M2, rfl, qb', qb, x2', x2, hz2, s2⟩
  have QB := Lib.hid qb
  have X2 := Lib.hid x2
  have HZ2 := Lib.hid hz2
  have S2 := Lib.hid s2
  have hsz2 := tail_size x2
  rw [← osize_eq] at hsz2
  have HS2 := Lib.hid hsz2
  have hc1 := fits (a := hd) (b := s) (by have := HS1.out; omega)
  have hc2 : ((hd.size + s.size) + tl.size > 9223372036854775807) = False := by
    have e := fits (a := hd ++ s) (b := tl) (by rw [ByteArray.size_append]; have := HS1.out; omega)
    rw [ByteArray.size_append] at e
    exact e
  clear qb' qb x2' x2 hz2 s2 hsz2
  go_wp2_with fail
  have S12 := Lib.hid (((S1.out.trans S2.out).boxed (.cells #[.pointer pa, .pointer pa', .string hd, .string tl'] 132)).boxed (.cells #[.pointer pb', .pointer pb, .string hd', .string tl] 132))
  have hz : osize oa + (hd ++ s ++ tl).size + osize ob ≤ lim := by
    have a1 := HS1.out
    have a2 := HS2.out
    rw [ByteArray.size_append, ByteArray.size_append]
    unfold lim
    omega
  have HZ := Lib.hid hz
  clear hz hc1 hc2
  refine (weave_any S12.out.inv (S2.out.pt S1.out.inv QA.out) QB.out (hd ++ s ++ tl) HZ.out).mono ?_
  rintro e w3 ⟨ow, pw, M3, rfl, xw, hw, qw, s3⟩
  have XW := Lib.hid xw
  have HW := Lib.hid hw
  have QW := Lib.hid qw
  have S3 := Lib.hid (S12.out.trans s3)
  clear xw hw qw s3
  go_wp2_with fail
  have hfin := rope_box S3.out QW.out
  have HF := Lib.hid hfin
  clear hfin
  go_ret
  refine ⟨M3, _, ow, rfl, HF.out.1, ⟨?_, fun hd1 hsz => ?_⟩, HF.out.2⟩
  · rw [XW.out, toList_append, toList_append, ← X1.out, ← X2.out]
    simp only [List.append_assoc]
  · obtain ⟨z1, _⟩ := HZ1.out hd1
    obtain ⟨_, z2⟩ := HZ2.out hd1
    refine HW.out z1 z2 ?_
    have e := congrArg List.length XW.out
    rw [List.length_append, List.length_append, bsize, ← osize_eq] at e
    omega

set_option maxHeartbeats 800000 in
theorem insert_any {B : Nat} {M : Mp} {w : World} (h : Inv B [] M w) {r : Option Addr} {o : Option T} (hr : RP M w r o) (i : Nat) (s : ByteArray) (hi : i ≤ osize o) (hs : osize o + s.size ≤ 65536) :
    Calls Tryz.prog 24 #[.pointer r, .int .i64 (i : Int), .string s] w (RopeMade B M w (Replaced o i i s)) := by
  have hnot : ∀ (x : Bool) (w : World), (Op.unary .not (.bool x)).run Tryz.prog w = .ok (.bool (!x)) w := fun _ _ => rfl
  have H := Lib.hid h
  have HR := Lib.hid hr
  clear h hr
  go_enter Tryz.func24, Tryz.ntmps24
  go_wp2_with fail
  refine (spans_any H.out HR.out _ _ true (spansB_yes (by omega))).mono ?_
  rintro e w' ⟨rfl, rfl⟩
  go_wp2_with fail
  refine (len_any H.out HR.out).mono ?_
  rintro e w' ⟨rfl, rfl⟩
  go_wp2_with fail
  refine (replace_any H.out HR.out i i s (Nat.le_refl _) hi (by unfold lim; omega)).mono ?_
  rintro e w1 ⟨M1, b1, o1, rfl, r1, p1, s1⟩
  have R1 := Lib.hid r1
  have P1 := Lib.hid p1
  have S1 := Lib.hid s1
  clear r1 p1 s1
  go_wp2_with fail
  go_ret2
  exact ⟨M1, b1, o1, rfl, R1.out, P1.out, S1.out⟩

theorem insert_arg {B : Nat} {M : Mp} {w : World} (h : Inv B [] M w) {r : Option Addr} {o : Option T} (hr : RP M w r o) (i : Int) (s : ByteArray) (hi : ¬ (0 ≤ i ∧ i ≤ osize o)) :
    Calls Tryz.prog 24 #[.pointer r, .int .i64 i, .string s] w fun e w' => e = .returned (.tuple #[.pointer none, .int .i64 1]) ∧ w = w' := by
  have hnot : ∀ (x : Bool) (w : World), (Op.unary .not (.bool x)).run Tryz.prog w = .ok (.bool (!x)) w := fun _ _ => rfl
  have H := Lib.hid h
  have HR := Lib.hid hr
  clear h hr
  go_enter Tryz.func24, Tryz.ntmps24
  go_wp2_with fail
  refine (spans_any H.out HR.out _ _ false (spansB_no (by omega))).mono ?_
  rintro e w' ⟨rfl, rfl⟩
  go_wp2_with fail
  go_ret2
  exact ⟨rfl, rfl⟩

theorem insert_big {B : Nat} {M : Mp} {w : World} (h : Inv B [] M w) {r : Option Addr} {o : Option T} (hr : RP M w r o) (i : Nat) (s : ByteArray) (hi : i ≤ osize o) (hs : 65536 < osize o + s.size) :
    Calls Tryz.prog 24 #[.pointer r, .int .i64 (i : Int), .string s] w fun e w' => e = .returned (.tuple #[.pointer none, .int .i64 4]) ∧ w = w' := by
  have hnot : ∀ (x : Bool) (w : World), (Op.unary .not (.bool x)).run Tryz.prog w = .ok (.bool (!x)) w := fun _ _ => rfl
  have hle := (hr.le h).2
  unfold lim at hle
  have H := Lib.hid h
  have HR := Lib.hid hr
  clear h hr
  go_enter Tryz.func24, Tryz.ntmps24
  go_wp2_with fail
  refine (spans_any H.out HR.out _ _ true (spansB_yes (by omega))).mono ?_
  rintro e w' ⟨rfl, rfl⟩
  go_wp2_with fail
  refine (len_any H.out HR.out).mono ?_
  rintro e w' ⟨rfl, rfl⟩
  go_wp2_with fail
  go_ret2
  exact ⟨rfl, rfl⟩

theorem delete_any {B : Nat} {M : Mp} {w : World} (h : Inv B [] M w) {r : Option Addr} {o : Option T} (hr : RP M w r o) (i j : Nat) (hij : i ≤ j) (hj : j ≤ osize o) :
    Calls Tryz.prog 26 #[.pointer r, .int .i64 (i : Int), .int .i64 (j : Int)] w (RopeMade B M w (Replaced o i j ⟨#[]⟩)) := by
  have hnot : ∀ (x : Bool) (w : World), (Op.unary .not (.bool x)).run Tryz.prog w = .ok (.bool (!x)) w := fun _ _ => rfl
  have hle := (hr.le h).2
  have H := Lib.hid h
  have HR := Lib.hid hr
  clear h hr
  go_enter Tryz.func26, Tryz.ntmps26
  go_wp2_with fail
  refine (spans_any H.out HR.out _ _ true (spansB_yes (by omega))).mono ?_
  rintro e w' ⟨rfl, rfl⟩
  go_wp2_with fail
  refine (replace_any H.out HR.out i j ⟨#[]⟩ hij hj (by have e : (ByteArray.mk #[]).size = 0 := rfl; rw [e]; omega)).mono ?_
  rintro e w1 ⟨M1, b1, o1, rfl, r1, p1, s1⟩
  have R1 := Lib.hid r1
  have P1 := Lib.hid p1
  have S1 := Lib.hid s1
  clear r1 p1 s1
  go_wp2_with fail
  go_ret2
  exact ⟨M1, b1, o1, rfl, R1.out, P1.out, S1.out⟩

end Go.Proofs.YtpnboieppkjfnaaGreat
