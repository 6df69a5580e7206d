/-
  Texts of the proof, put together: ReN.
-/
import Derived.Test.YtpnboieppkjfnaaGreatG43
import Derived.Test.YtpnboieppkjfnaaGreatG23

/-
  Text, Work, New, Insert and Delete, walked.
-/
namespace Go.Proofs.YtpnboieppkjfnaaGreat
open Go.RowKit

def DT.set (D : DT) (q : Nat) (i : DI) : DT := fun k => if k = q then some i else D k
theorem DT.set_same (D : DT) (q : Nat) (i : DI) : D.set q i q = some i := by unfold DT.set; rw [if_pos rfl]
theorem DT.set_other (D : DT) {q k : Nat} (i : DI) (h : k ≠ q) : D.set q i k = D k := by unfold DT.set; rw [if_neg h]

/-- A document is laid that is not made yet. -/
theorem box_doc {B : Nat} {M : Mp} {D : DT} {w : World} (h : All B M D w) {i : DI} {r : Option Addr} {o : Option T} (hr : RP M w r o) (hot : otext o = i.l) (hlen : i.l.length ≤ 65536) {ev : Value} {K : List (Nat × Int)} {fr te : Nat} {Ts : List (List UInt8)} {mf : Int}
    (hmf : mf = (i.l.length : Int) - Ts.flatten.length ∨ (Ts = [] ∧ -65536 ≤ mf ∧ mf ≤ 65536)) (hrow : w.ownsRow 0 84 2 ev K.length (kcells K)) (hread : KRead K (rows 0 Ts) w) (he : Ed Ts fr te i.l) (hQ : ∀ n, WorkOk Ts fr te i.l n → i.Q n) :
    Stp B M D w M (D.set w.heap.size i) (w.alloc (docObj i.F r 0 0 0 ev (fr : Int) (te : Int) mf (.slice none 0 0) 0)) := by
  have hb : Below w.heap.size w (w.alloc (docObj i.F r 0 0 0 ev (fr : Int) (te : Int) mf (.slice none 0 0) 0)) := (Below.refl _ _).alloc (Nat.le_refl _) _
  have hs := Sm.below hb
  have st := Stp.below h hb
  refine ⟨st.os, st.tape, st.output, st.size, st.extM, fun k hk => DT.set_other _ _ (by omega), fun k hk hm hd => hb.block k hk, st.all.inv, fun q j hq => ?_⟩
  by_cases e : q = w.heap.size
  · subst e
    rw [DT.set_same] at hq
    cases hq
    exact ⟨⟨r, o, rp_ext h.inv (fun _ _ => rfl) hs hr, hot, hlen, .inr ⟨ev, K, fr, te, Ts, mf, heap_alloc_new _ _, hmf, own_sm hrow hs (by decide), hread.sm hs, he, hQ⟩⟩, h.inv.base⟩
  · rw [DT.set_other _ _ e] at hq
    exact st.all.doc q j hq

theorem DocAt.cells {M : Mp} {w : World} {p : Nat} {i : DI} (h : DocAt M w p i) : ∃ r o, RP M w r o ∧ otext o = i.l ∧ i.l.length ≤ 65536 ∧ w.cell? ⟨p, 0, none⟩ = some (.string i.F) ∧ w.cell? ⟨p, 1, none⟩ = some (.pointer r) := by
  obtain ⟨r, o, h1, h2, h3, ⟨lv, wk, Ts, h4, -⟩ | ⟨ev, K, fr, te, Ts, mf, h4, -⟩⟩ := h
  · exact ⟨r, o, h1, h2, h3, by rw [Lib.cell_of_heap h4]; rfl, by rw [Lib.cell_of_heap h4]; rfl⟩
  · exact ⟨r, o, h1, h2, h3, by rw [Lib.cell_of_heap h4]; rfl, by rw [Lib.cell_of_heap h4]; rfl⟩

set_option maxRecDepth 100000 in
theorem dtext_any {B : Nat} {M : Mp} {D : DT} {w : World} (h : All B M D w) {p : Nat} {i : DI} (hp : D p = some i) : Calls Tryz.prog 18 #[.pointer (some ⟨p, 0, none⟩)] w fun e w' => e = .returned (.string ⟨i.l.toArray⟩) ∧ Below w.heap.size w w' := by
  obtain ⟨r, o, h1, h2, h3, c0, c1⟩ := (h.doc p i hp).1.cells
  have HT := Lib.hid (h2 ▸ text_bel h.inv h1)
  clear h h1 h2 h3 hp
  go_enter Tryz.func18, Tryz.ntmps18
  go_wp2_with (go_at_call 32; refine HT.out.mono ?_; rintro e w' ⟨rfl, hb⟩; have HB := Lib.hid hb; clear hb)
  go_ret
  exact ⟨rfl, HB.out⟩

def WkPost (B : Nat) (M : Mp) (D : DT) (w : World) (i : DI) (e : Ending) (w' : World) : Prop := ∃ n : Nat, e = .returned (.int .i64 (n : Int)) ∧ i.Q n ∧ Stp B M D w M D w'

set_option maxRecDepth 100000 in
theorem dwork_any {B : Nat} {M : Mp} {D : DT} {w : World} (h : All B M D w) {p : Nat} {i : DI} (hp : D p = some i) : Calls Tryz.prog 11 #[.pointer (some ⟨p, 0, none⟩)] w (WkPost B M D w i) := by
  have HM := Lib.hid (made_any h hp)
  clear h hp
  go_enter Tryz.func11, Tryz.ntmps11
  go_wp2_with fail
  refine HM.out.mono ?_
  rintro e w1 ⟨ad, n, cap, wk, r, Ts, K, rfl, hn, hst, hd, -, -, -, -, hq, -⟩
  have c10 : w1.cell? ⟨p, 10, none⟩ = some (.int .i64 (wk : Int)) := by rw [Lib.cell_of_heap hd]; rfl
  have HF : Hid (WkPost B M D w i (.returned (.int .i64 (wk : Int))) w1) := Lib.hid ⟨wk, rfl, hq, hst⟩
  clear hst hd hq hn
  go_wp2_with (go_at_call 28; refine (loadN_any ⟨p, 10, none⟩ rfl wk w1 c10).mono ?_; rintro e w' ⟨rfl, rfl⟩)
  go_ret
  exact HF.out

theorem dwork_nil (w : World) : Calls Tryz.prog 11 #[.pointer none] w fun e w' => e = .returned (.int .i64 0) ∧ w = w' := by
  go_enter Tryz.func11, Tryz.ntmps11
  go_wp2
  go_ret
  exact ⟨rfl, rfl⟩

def EdPost (B : Nat) (M : Mp) (D : DT) (w : World) (i : DI) (e : Ending) (w' : World) : Prop := ∃ q, e = .returned (.pointer (some ⟨q, 0, none⟩)) ∧ w.heap.size ≤ q ∧ Stp B M D w M (D.set q i) w'

set_option maxRecDepth 100000 in
set_option maxHeartbeats 3200000 in
theorem edited_any {B : Nat} {M : Mp} {D : DT} {w : World} (h : All B M D w) {p : Nat} {i : DI} (hp : D p = some i) {fr te : Nat} {r' : Option Addr} {o' : Option T} (hr' : RP M w r' o') {i' : DI} (hF : i'.F = i.F) (ho' : otext o' = i'.l) (hfr : fr ≤ te) (hte : te ≤ i.l.length) (his : ∃ ins, i'.l = i.l.take fr ++ (ins ++ i.l.drop te)) (hlen : i'.l.length ≤ 65536)
    (hQ : ∀ Ts, Pcs Ts → Ts.flatten = i.l → ∀ n, WorkOk Ts fr te i'.l n → i'.Q n) :
    Calls Tryz.prog 25 #[.pointer (some ⟨p, 0, none⟩), .int .i64 (fr : Int), .int .i64 (te : Int), .pointer r'] w (EdPost B M D w i') := by
  obtain ⟨r, o, h1, h2, h3, c0, c1⟩ := (h.doc p i hp).1.cells
  have hpl := h.lt hp
  have hdr : Stp B M D w M D w.drew := Stp.below h (Below.refl _ _).drew
  have hsd := Stp.sm h hdr
  have HM := Lib.hid (made_any hdr.all hp)
  have hol : osize o = i.l.length := by rw [osize_eq, h2]
  have hol' : osize o' = i'.l.length := by rw [osize_eq, ho']
  have HLN : Hid (∀ X : World, Inv B [] M X → RP M X r' o' → Calls Tryz.prog 41 #[.pointer r'] X (NatPost i'.l.length X)) := Lib.hid (fun X hX hR => hol' ▸ len_any hX hR)
  have HLO : Hid (∀ X : World, Inv B [] M X → RP M X r o → Calls Tryz.prog 41 #[.pointer r] X (NatPost i.l.length X)) := Lib.hid (fun X hX hR => hol ▸ len_any hX hR)
  have HI0 := Lib.hid hdr.all.inv
  have HR0 := Lib.hid (rp_ext h.inv hdr.extM hsd hr')
  have HO0 := Lib.hid (rp_ext h.inv hdr.extM hsd h1)
  have HDR := Lib.hid hdr
  have HFI : Hid (∀ (w1 : World) (r2 : Option Addr) (ad : Option Addr) (n cap wk : Nat) (Ts : List (List UInt8)) (K : List (Nat × Int)), n = K.length → Stp B M D w.drew M D w1 → w1.heap[p]? = some (docObj i.F r2 1 0 0 (.slice none 0 0) 0 0 0 (.slice ad n cap) (wk : Int)) → w1.ownsRow 0 84 2 (.slice ad n cap) n (kcells K) → KRead K (rows 0 Ts) w1 → Pcs Ts → Ts.flatten = i.l →
      EdPost B M D w i' (.returned (.pointer (some ⟨w1.heap.size, 0, none⟩))) (w1.alloc (docObj i'.F r' 0 0 0 (.slice ad n cap) (fr : Int) (te : Int) ((i'.l.length : Int) - (i.l.length : Int)) (.slice none 0 0) 0))) := Lib.hid (by
    intro w1 r2 ad n cap wk Ts K hn hst hd hrow hread hpcs hfl
    have hs1 := hdr.trans hst
    refine ⟨_, rfl, hs1.size, hs1.trans (box_doc hst.all (rp_ext h.inv hs1.extM (Stp.sm h hs1) hr') ho' hlen (.inl (by rw [hfl])) (hn ▸ hrow) hread ⟨hpcs, hfr, by rw [hfl]; exact hte, by rw [hfl]; exact his, by rw [hfl]; exact h3, hlen⟩ (hQ Ts hpcs hfl))⟩)
  have HSX : Hid (∀ (w1 : World) (r2 : Option Addr) (ev lv : Value) (wk : Nat), Stp B M D w.drew M D w1 → w1.heap[p]? = some (docObj i.F r2 1 0 0 ev 0 0 0 lv (wk : Int)) → (∀ r0, w.drew.cell? ⟨p, 1, none⟩ = some (.pointer r0) → r2 = r0) → Inv B [] M w1 ∧ RP M w1 r' o' ∧ RP M w1 r o ∧ w1.cell? ⟨p, 0, none⟩ = some (.string i.F) ∧ w1.cell? ⟨p, 1, none⟩ = some (.pointer r)) := Lib.hid (fun w1 r2 ev lv wk hst hd hrr => by
    have hs1 := hdr.trans hst
    have hrr2 := hrr r c1
    subst hrr2
    exact ⟨hst.all.inv, rp_ext h.inv hs1.extM (Stp.sm h hs1) hr', rp_ext h.inv hs1.extM (Stp.sm h hs1) h1, by rw [Lib.cell_of_heap hd]; rfl, by rw [Lib.cell_of_heap hd]; rfl⟩)
  have HS0 : Hid (w.drew.cell? ⟨p, 0, none⟩ = some (.string i.F) ∧ w.drew.cell? ⟨p, 1, none⟩ = some (.pointer r)) := Lib.hid ⟨c0, c1⟩
  have hw : IntKind.i64.wrap ((i'.l.length : Int) - (i.l.length : Int)) = (i'.l.length : Int) - (i.l.length : Int) := IntWalk.i64_in _ (by omega)
  rw [hF] at HFI
  clear h hp hr' ho' hfr hte his hlen hQ h1 h2 h3 c0 c1 hdr hsd hol hol' hF
  go_enter Tryz.func25, Tryz.ntmps25
  go_wp2
  go_region_held3 (fun w' => w'.cell? ⟨p, 0, none⟩ = some (.string i.F) ∧ w'.cell? ⟨p, 1, none⟩ = some (.pointer r))
    (first | exact HS0.out | exact HS1.out | exact HS2.out _)
    (first
      | (go_at_call 27; (with_reducible refine HM.out.mono ?_); rintro e w1 ⟨ad, n, cap, wk, r2, Ts, K, rfl, hn, hst, hd, hrow, hread, hpc, hfl, hqq, hr2⟩; have hx := HSX.out w1 r2 _ _ wk hst hd hr2; have HI1 := Lib.hid hx.1; have HR1 := Lib.hid hx.2.1; have HO1 := Lib.hid hx.2.2.1; have HS1 : Hid (w1.cell? ⟨p, 0, none⟩ = some (.string i.F) ∧ w1.cell? ⟨p, 1, none⟩ = some (.pointer r)) := Lib.hid hx.2.2.2; have HS2 : Hid (∀ o, (w1.alloc o).cell? ⟨p, 0, none⟩ = some (.string i.F) ∧ (w1.alloc o).cell? ⟨p, 1, none⟩ = some (.pointer r)) := Lib.hid (fun o => ⟨bcell ((Below.refl _ _).alloc (Nat.le_refl _) o) hx.2.2.2.1 (row_lt hd), bcell ((Below.refl _ _).alloc (Nat.le_refl _) o) hx.2.2.2.2 (row_lt hd)⟩); have HZ := Lib.hid (HFI.out w1 r2 ad n cap wk Ts K hn hst hd hrow hread hpc hfl); clear hx hst hd hrow hread hpc hfl hqq hr2 hn)
      | (go_at_call 41; (with_reducible refine (HLN.out _ HI1.out HR1.out).mono ?_); rintro e w' ⟨rfl, rfl⟩)
      | (go_at_call 41; (with_reducible refine (HLO.out _ HI1.out HO1.out).mono ?_); rintro e w' ⟨rfl, rfl⟩))
  go_wp2
  go_ret
  exact HZ.out

/-- A document is made, or one of another one. -/
def NewPost (B : Nat) (M : Mp) (D : DT) (w : World) (i : DI) (e : Ending) (w' : World) : Prop := ∃ q M', e = .returned (.tuple #[.pointer (some ⟨q, 0, none⟩), .int .i64 0]) ∧ w.heap.size ≤ q ∧ Stp B M D w M' (D.set q i) w'

set_option maxRecDepth 100000 in
theorem dnew_any {B : Nat} {M : Mp} {D : DT} {w : World} (h : All B M D w) (F s : ByteArray) (hF : F.size ≤ 1000000) (hs : s.size ≤ 65536) {i : DI} (hiF : i.F = F) (hil : i.l = s.data.toList) (hQ : ∀ n, WorkOk [] 0 0 i.l n → i.Q n) : Calls Tryz.prog 7 #[.string F, .string s] w (NewPost B M D w i) := by
  have HN := Lib.hid (new_any h.inv s hs)
  have HFI : Hid (∀ (M1 : Mp) (w1 w2 : World) (b : Nat) (o : Option T), RP M1 w1 (some ⟨b, 0, none⟩) o → GrownT s o → St B M w M1 w1 → Below w1.heap.size w1 w2 → NewPost B M D w i (.returned (.tuple #[.pointer (some ⟨w2.heap.size, 0, none⟩), .int .i64 0])) (w2.alloc (docObj F (some ⟨b, 0, none⟩) 0 0 0 (.slice none 0 0) 0 0 0 (.slice none 0 0) 0))) := Lib.hid (by
    intro M1 w1 w2 b o hr hg hst hb
    have s1 := Stp.st h hst
    have s2 := Stp.below s1.all hb
    have s3 := s1.trans s2
    have hl : i.l.length ≤ 65536 := by rw [hil]; simpa using hs
    refine ⟨_, M1, rfl, s3.size, s3.trans ?_⟩
    have hbx := box_doc (i := i) (K := []) (Ts := []) (fr := 0) (te := 0) (mf := 0) (ev := .slice none 0 0) s2.all (rp_ext s1.all.inv (fun _ _ => rfl) (Sm.below hb) hr) (by rw [hil]; exact hg.1) hl (.inr ⟨rfl, by omega, by omega⟩) ⟨rfl, .inl ⟨rfl, rfl⟩⟩ ⟨rfl, fun _ _ _ hk _ => by cases hk⟩ (ed_new _ hl) hQ
    rw [hiF] at hbx
    exact hbx)
  clear h hQ hiF hil
  go_enter Tryz.func7, Tryz.ntmps7
  go_wp2_with (first
    | (go_at_call 16; (with_reducible refine HN.out.mono ?_); rintro e w1 ⟨M1, b, o, rfl, hr, hg, hst⟩; have HX := Lib.hid (fun w2 => HFI.out M1 w1 w2 b o hr hg hst); clear hr hg hst)
    | (go_at_call 17; (with_reducible refine (clone_is F _ hF).mono ?_); rintro e w2 ⟨rfl, hb2⟩; have HZ := Lib.hid (HX.out w2 hb2); clear hb2))
  go_ret2
  exact HZ.out

theorem delete_arg {B : Nat} {M : Mp} {w : World} (h : Inv B [] M w) {r : Option Addr} {o : Option T} (hr : RP M w r o) (i j : Int) (hi : ¬ (0 ≤ i ∧ i ≤ j ∧ j ≤ osize o)) :
    Calls Tryz.prog 26 #[.pointer r, .int .i64 i, .int .i64 j] w fun e w' => e = .returned (.tuple #[.pointer none, .int .i64 1]) ∧ w = w' := by
  have hnot : ∀ (x : Bool) (w : World), (Op.unary .not (.bool x)).run Tryz.prog w = .ok (.bool (!x)) w := fun _ _ => rfl
  have H := Lib.hid h
  have HR := Lib.hid hr
  clear h hr
  go_enter Tryz.func26, Tryz.ntmps26
  go_wp2_with fail
  refine (spans_any H.out HR.out _ _ false (spansB_no hi)).mono ?_
  rintro e w' ⟨rfl, rfl⟩
  go_wp2_with fail
  go_ret2
  exact ⟨rfl, rfl⟩

set_option maxRecDepth 100000 in
theorem dinsert_any {B : Nat} {M : Mp} {D : DT} {w : World} (h : All B M D w) {p : Nat} {i : DI} (hp : D p = some i) (k : Nat) (s : ByteArray) (hk : k ≤ i.l.length) (hs : i.l.length + s.size ≤ 65536) {i' : DI} (hF : i'.F = i.F) (hl : i'.l = i.l.take k ++ (s.data.toList ++ i.l.drop k))
    (hQ : ∀ Ts, Pcs Ts → Ts.flatten = i.l → ∀ n, WorkOk Ts k k i'.l n → i'.Q n) : Calls Tryz.prog 9 #[.pointer (some ⟨p, 0, none⟩), .int .i64 (k : Int), .string s] w (NewPost B M D w i') := by
  obtain ⟨r, o, h1, h2, h3, c0, c1⟩ := (h.doc p i hp).1.cells
  have hol : osize o = i.l.length := by rw [osize_eq, h2]
  have HI := Lib.hid (insert_any h.inv h1 k s (by omega) (by omega))
  have HED : Hid (∀ (M1 : Mp) (w1 : World) (b : Nat) (v : Option T), RP M1 w1 (some ⟨b, 0, none⟩) v → Replaced o k k s v → St B M w M1 w1 → Calls Tryz.prog 25 #[.pointer (some ⟨p, 0, none⟩), .int .i64 (k : Int), .int .i64 (k : Int), .pointer (some ⟨b, 0, none⟩)] w1 (EdPost B M1 D w1 i') ∧ Stp B M D w M1 D w1) := Lib.hid (by
    intro M1 w1 b v hr hv hst
    have s1 := Stp.st h hst
    have hv2 : otext v = i'.l := by rw [hv.1, h2, hl]
    refine ⟨edited_any s1.all hp hr hF hv2 (Nat.le_refl _) hk ⟨_, hl⟩ ?_ hQ, s1⟩
    rw [hl]
    simp only [List.length_append, List.length_take, List.length_drop, len_byte]
    omega)
  clear h hQ hF hl h1 h2 h3 hp c0 hk hs hol
  go_enter Tryz.func9, Tryz.ntmps9
  go_wp2_with (first
    | (go_at_call 24; (with_reducible refine HI.out.mono ?_); rintro e w1 ⟨M1, b, v, rfl, hr, hv, hst⟩; have hx := HED.out M1 w1 b v hr hv hst; have HE1 := Lib.hid hx.1; have HST := Lib.hid hx.2; clear hr hv hst hx)
    | (go_at_call 25; (with_reducible refine HE1.out.mono ?_); rintro e w2 ⟨q, rfl, hq, hst2⟩; have HF2 : Hid (NewPost B M D w i' (.returned (.tuple #[.pointer (some ⟨q, 0, none⟩), .int .i64 0])) w2) := Lib.hid ⟨q, M1, rfl, Nat.le_trans HST.out.size hq, HST.out.trans hst2⟩; clear hq hst2))
  go_ret2
  exact HF2.out

set_option maxRecDepth 100000 in
theorem ddelete_any {B : Nat} {M : Mp} {D : DT} {w : World} (h : All B M D w) {p : Nat} {i : DI} (hp : D p = some i) (k j : Nat) (hkj : k ≤ j) (hj : j ≤ i.l.length) {i' : DI} (hF : i'.F = i.F) (hl : i'.l = i.l.take k ++ i.l.drop j)
    (hQ : ∀ Ts, Pcs Ts → Ts.flatten = i.l → ∀ n, WorkOk Ts k j i'.l n → i'.Q n) : Calls Tryz.prog 10 #[.pointer (some ⟨p, 0, none⟩), .int .i64 (k : Int), .int .i64 (j : Int)] w (NewPost B M D w i') := by
  obtain ⟨r, o, h1, h2, h3, c0, c1⟩ := (h.doc p i hp).1.cells
  have hol : osize o = i.l.length := by rw [osize_eq, h2]
  have HI := Lib.hid (delete_any h.inv h1 k j hkj (by omega))
  have HED : Hid (∀ (M1 : Mp) (w1 : World) (b : Nat) (v : Option T), RP M1 w1 (some ⟨b, 0, none⟩) v → Replaced o k j ⟨#[]⟩ v → St B M w M1 w1 → Calls Tryz.prog 25 #[.pointer (some ⟨p, 0, none⟩), .int .i64 (k : Int), .int .i64 (j : Int), .pointer (some ⟨b, 0, none⟩)] w1 (EdPost B M1 D w1 i') ∧ Stp B M D w M1 D w1) := Lib.hid (by
    intro M1 w1 b v hr hv hst
    have s1 := Stp.st h hst
    have hv2 : otext v = i'.l := by rw [hv.1, h2, hl]; rfl
    refine ⟨edited_any s1.all hp hr hF hv2 hkj hj ⟨[], hl⟩ ?_ hQ, s1⟩
    rw [hl]
    simp only [List.length_append, List.length_take, List.length_drop]
    omega)
  clear h hQ hF hl h1 h2 h3 hp c0 hkj hj hol
  go_enter Tryz.func10, Tryz.ntmps10
  go_wp2_with (first
    | (go_at_call 26; (with_reducible refine HI.out.mono ?_); rintro e w1 ⟨M1, b, v, rfl, hr, hv, hst⟩; have hx := HED.out M1 w1 b v hr hv hst; have HE1 := Lib.hid hx.1; have HST := Lib.hid hx.2; clear hr hv hst hx)
    | (go_at_call 25; (with_reducible refine HE1.out.mono ?_); rintro e w2 ⟨q, rfl, hq, hst2⟩; have HF2 : Hid (NewPost B M D w i' (.returned (.tuple #[.pointer (some ⟨q, 0, none⟩), .int .i64 0])) w2) := Lib.hid ⟨q, M1, rfl, Nat.le_trans HST.out.size hq, HST.out.trans hst2⟩; clear hq hst2))
  go_ret2
  exact HF2.out

def RefPost (w : World) (e : Ending) (w' : World) : Prop := e = .returned (.tuple #[.pointer none, .int .i64 1]) ∧ w = w'

theorem dinsert_arg {B : Nat} {M : Mp} {D : DT} {w : World} (h : All B M D w) {p : Nat} {i : DI} (hp : D p = some i) (k : Int) (s : ByteArray) (hk : ¬ (0 ≤ k ∧ k ≤ i.l.length)) : Calls Tryz.prog 9 #[.pointer (some ⟨p, 0, none⟩), .int .i64 k, .string s] w (RefPost w) := by
  obtain ⟨r, o, h1, h2, h3, c0, c1⟩ := (h.doc p i hp).1.cells
  have hol : osize o = i.l.length := by rw [osize_eq, h2]
  have HI := Lib.hid (insert_arg h.inv h1 k s (by rw [hol]; exact hk))
  clear h h1 h2 h3 hp c0 hk hol
  go_enter Tryz.func9, Tryz.ntmps9
  go_wp2_with (go_at_call 24; (with_reducible refine HI.out.mono ?_); rintro e w1 ⟨rfl, rfl⟩)
  go_ret2
  exact ⟨rfl, rfl⟩

theorem ddelete_arg {B : Nat} {M : Mp} {D : DT} {w : World} (h : All B M D w) {p : Nat} {i : DI} (hp : D p = some i) (k j : Int) (hk : ¬ (0 ≤ k ∧ k ≤ j ∧ j ≤ i.l.length)) : Calls Tryz.prog 10 #[.pointer (some ⟨p, 0, none⟩), .int .i64 k, .int .i64 j] w (RefPost w) := by
  obtain ⟨r, o, h1, h2, h3, c0, c1⟩ := (h.doc p i hp).1.cells
  have hol : osize o = i.l.length := by rw [osize_eq, h2]
  have HI := Lib.hid (delete_arg h.inv h1 k j (by rw [hol]; exact hk))
  clear h h1 h2 h3 hp c0 hk hol
  go_enter Tryz.func10, Tryz.ntmps10
  go_wp2_with (go_at_call 26; (with_reducible refine HI.out.mono ?_); rintro e w1 ⟨rfl, rfl⟩)
  go_ret2
  exact ⟨rfl, rfl⟩

theorem dinsert_nil (k : Int) (s : ByteArray) (w : World) : Calls Tryz.prog 9 #[.pointer none, .int .i64 k, .string s] w (RefPost w) := by
  go_enter Tryz.func9, Tryz.ntmps9
  go_wp2
  go_ret2
  exact ⟨rfl, rfl⟩

end Go.Proofs.YtpnboieppkjfnaaGreat
