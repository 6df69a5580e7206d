/-
  replace, Insert, Delete.
-/
import Derived.Test.YtfjdfdpelilelaaDoorWeave
import Derived.Test.YtfjdfdpelilelaaDoorNew
namespace Go.Proofs.YtfjdfdpelilelaaDoor
open Go.RowKit

/-- What is asked of the new text's tree. -/
def Replaced (o : Option T) (i j : Nat) (s : ByteArray) (v : Option T) : Prop :=
  otext v = (otext o).take i ++ (s.data.toList ++ (otext o).drop j) ∧ (odepth o ≤ 1 → osize v ≤ 256 → odepth v ≤ 1)

def RopePtr (B : Nat) (M : Mp) (w : World) (P : Option T → Prop) (e : Ending) (w' : World) : Prop :=
  ∃ M' b o, e = .returned (.pointer (some ⟨b, 0, none⟩)) ∧ RP M' w' (some ⟨b, 0, none⟩) o ∧ P o ∧ St B M w M' w'

set_option maxHeartbeats 1600000 in
set_option maxRecDepth 100000 in
theorem replace_any {B : Nat} {M : Mp} {w : World} (h : Inv B [] M w) {r : Option Addr} {o : Option T} (hr : RP M w r o) (i j : Nat) (s : ByteArray) (hij : i ≤ j) (hj : j ≤ osize o) (hs : i + s.size + (osize o - j) ≤ lim) :
    Calls Tryd.prog 60 #[.pointer r, .int .i64 (i : Int), .int .i64 (j : Int), .string s] w (RopePtr B M w (Replaced o i j s)) := by
  have hle := (hr.le h).2
  have H := Lib.hid h
  have HR := Lib.hid hr
  unfold lim at hs hle
  clear h hr
  go_enter Tryd.func60, Tryd.ntmps60
  go_wp2_with fail
  refine (top_any HR.out).mono ?_
  rintro e w' ⟨⟨p, rfl, hp⟩, rfl⟩
  have HP := Lib.hid hp
  clear hp
  go_wp2_with fail
  refine (cut_any H.out HP.out i (by omega)).mono ?_
  rintro e w1 ⟨oa, oa', hd, tl', pa, pa', M1, rfl, qa, qa', x1, x1', hz1, s1⟩
  have HR1 := Lib.hid (HR.out.step H.out s1)
  have QA := Lib.hid qa
  have X1 := Lib.hid x1
  have HZ1 := Lib.hid hz1
  have S1 := Lib.hid s1
  have hsz1 := head_size x1
  rw [← osize_eq] at hsz1
  have HS1 := Lib.hid hsz1
  clear qa qa' x1 x1' hz1 s1 hsz1
  go_wp2_with fail
  refine (top_any HR1.out).mono ?_
  rintro e w' ⟨⟨p', rfl, hp⟩, rfl⟩
  have HP' := Lib.hid hp
  clear hp
  go_wp2_with fail
  refine (cut_any S1.out.inv HP'.out j hj).mono ?_
  rintro e w2 ⟨ob', ob, hd', tl, pb', pb, M2, rfl, qb', qb, x2', x2, hz2, s2⟩
  have QB := Lib.hid qb
  have X2 := Lib.hid x2
  have HZ2 := Lib.hid hz2
  have S2 := Lib.hid s2
  have hsz2 := tail_size x2
  rw [← osize_eq] at hsz2
  have HS2 := Lib.hid hsz2
  have hc1 := fits (a := hd) (b := s) (by have := HS1.out; omega)
  have hc2 : ((hd.size + s.size) + tl.size > 9223372036854775807) = False := by
    have e := fits (a := hd ++ s) (b := tl) (by rw [ByteArray.size_append]; have := HS1.out; omega)
    rw [ByteArray.size_append] at e
    exact e
  clear qb' qb x2' x2 hz2 s2 hsz2
  go_wp2_with fail
  have S12 := Lib.hid (((S1.out.trans S2.out).boxed (.cells #[.pointer pa, .pointer pa', .string hd, .string tl'] 133)).boxed (.cells #[.pointer pb', .pointer pb, .string hd', .string tl] 133))
  have hz : osize oa + (hd ++ s ++ tl).size + osize ob ≤ lim := by
    have a1 := HS1.out
    have a2 := HS2.out
    rw [ByteArray.size_append, ByteArray.size_append]
    unfold lim
    omega
  have HZ := Lib.hid hz
  clear hz hc1 hc2
  refine (weave_any S12.out.inv (S2.out.pt S1.out.inv QA.out) QB.out (hd ++ s ++ tl) HZ.out).mono ?_
  rintro e w3 ⟨ow, pw, M3, rfl, xw, hw, qw, s3⟩
  have XW := Lib.hid xw
  have HW := Lib.hid hw
  have QW := Lib.hid qw
  have S3 := Lib.hid (S12.out.trans s3)
  clear xw hw qw s3
  go_wp2_with fail
  have hfin := rope_box S3.out QW.out
  have HF := Lib.hid hfin
  clear hfin
  go_ret
  refine ⟨M3, _, ow, rfl, HF.out.1, ⟨?_, fun hd1 hsz => ?_⟩, HF.out.2⟩
  · rw [XW.out, toList_append, toList_append, ← X1.out, ← X2.out]
    simp only [List.append_assoc]
  · obtain ⟨z1, _⟩ := HZ1.out hd1
    obtain ⟨_, z2⟩ := HZ2.out hd1
    refine HW.out z1 z2 ?_
    have e := congrArg List.length XW.out
    rw [List.length_append, List.length_append, bsize, ← osize_eq] at e
    omega

set_option maxHeartbeats 800000 in
theorem insert_any {B : Nat} {M : Mp} {w : World} (h : Inv B [] M w) {r : Option Addr} {o : Option T} (hr : RP M w r o) (i : Nat) (s : ByteArray) (hi : i ≤ osize o) (hs : osize o + s.size ≤ 65536) :
    Calls Tryd.prog 40 #[.pointer r, .int .i64 (i : Int), .string s] w (RopeMade B M w (Replaced o i i s)) := by
  have hnot : ∀ (x : Bool) (w : World), (Op.unary .not (.bool x)).run Tryd.prog w = .ok (.bool (!x)) w := fun _ _ => rfl
  have H := Lib.hid h
  have HR := Lib.hid hr
  clear h hr
  go_enter Tryd.func40, Tryd.ntmps40
  go_wp2_with fail
  refine (spans_any H.out HR.out _ _ true (spansB_yes (by omega))).mono ?_
  rintro e w' ⟨rfl, rfl⟩
  go_wp2_with fail
  refine (len_any H.out HR.out).mono ?_
  rintro e w' ⟨rfl, rfl⟩
  go_wp2_with fail
  refine (replace_any H.out HR.out i i s (Nat.le_refl _) hi (by unfold lim; omega)).mono ?_
  rintro e w1 ⟨M1, b1, o1, rfl, r1, p1, s1⟩
  have R1 := Lib.hid r1
  have P1 := Lib.hid p1
  have S1 := Lib.hid s1
  clear r1 p1 s1
  go_wp2_with fail
  go_ret2
  exact ⟨M1, b1, o1, rfl, R1.out, P1.out, S1.out⟩

theorem insert_arg {B : Nat} {M : Mp} {w : World} (h : Inv B [] M w) {r : Option Addr} {o : Option T} (hr : RP M w r o) (i : Int) (s : ByteArray) (hi : ¬ (0 ≤ i ∧ i ≤ osize o)) :
    Calls Tryd.prog 40 #[.pointer r, .int .i64 i, .string s] w fun e w' => e = .returned (.tuple #[.pointer none, .int .i64 1]) ∧ w = w' := by
  have hnot : ∀ (x : Bool) (w : World), (Op.unary .not (.bool x)).run Tryd.prog w = .ok (.bool (!x)) w := fun _ _ => rfl
  have H := Lib.hid h
  have HR := Lib.hid hr
  clear h hr
  go_enter Tryd.func40, Tryd.ntmps40
  go_wp2_with fail
  refine (spans_any H.out HR.out _ _ false (spansB_no (by omega))).mono ?_
  rintro e w' ⟨rfl, rfl⟩
  go_wp2_with fail
  go_ret2
  exact ⟨rfl, rfl⟩

theorem insert_big {B : Nat} {M : Mp} {w : World} (h : Inv B [] M w) {r : Option Addr} {o : Option T} (hr : RP M w r o) (i : Nat) (s : ByteArray) (hi : i ≤ osize o) (hs : 65536 < osize o + s.size) :
    Calls Tryd.prog 40 #[.pointer r, .int .i64 (i : Int), .string s] w fun e w' => e = .returned (.tuple #[.pointer none, .int .i64 4]) ∧ w = w' := by
  have hnot : ∀ (x : Bool) (w : World), (Op.unary .not (.bool x)).run Tryd.prog w = .ok (.bool (!x)) w := fun _ _ => rfl
  have hle := (hr.le h).2
  unfold lim at hle
  have H := Lib.hid h
  have HR := Lib.hid hr
  clear h hr
  go_enter Tryd.func40, Tryd.ntmps40
  go_wp2_with fail
  refine (spans_any H.out HR.out _ _ true (spansB_yes (by omega))).mono ?_
  rintro e w' ⟨rfl, rfl⟩
  go_wp2_with fail
  refine (len_any H.out HR.out).mono ?_
  rintro e w' ⟨rfl, rfl⟩
  go_wp2_with fail
  go_ret2
  exact ⟨rfl, rfl⟩

theorem delete_any {B : Nat} {M : Mp} {w : World} (h : Inv B [] M w) {r : Option Addr} {o : Option T} (hr : RP M w r o) (i j : Nat) (hij : i ≤ j) (hj : j ≤ osize o) :
    Calls Tryd.prog 43 #[.pointer r, .int .i64 (i : Int), .int .i64 (j : Int)] w (RopeMade B M w (Replaced o i j ⟨#[]⟩)) := by
  have hnot : ∀ (x : Bool) (w : World), (Op.unary .not (.bool x)).run Tryd.prog w = .ok (.bool (!x)) w := fun _ _ => rfl
  have hle := (hr.le h).2
  have H := Lib.hid h
  have HR := Lib.hid hr
  clear h hr
  go_enter Tryd.func43, Tryd.ntmps43
  go_wp2_with fail
  refine (spans_any H.out HR.out _ _ true (spansB_yes (by omega))).mono ?_
  rintro e w' ⟨rfl, rfl⟩
  go_wp2_with fail
  refine (replace_any H.out HR.out i j ⟨#[]⟩ hij hj (by have e : (ByteArray.mk #[]).size = 0 := rfl; rw [e]; omega)).mono ?_
  rintro e w1 ⟨M1, b1, o1, rfl, r1, p1, s1⟩
  have R1 := Lib.hid r1
  have P1 := Lib.hid p1
  have S1 := Lib.hid s1
  clear r1 p1 s1
  go_wp2_with fail
  go_ret2
  exact ⟨M1, b1, o1, rfl, R1.out, P1.out, S1.out⟩

end Go.Proofs.YtfjdfdpelilelaaDoor
