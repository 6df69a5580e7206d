/-
  Texts of the proof, put together: ReL.
-/
import Derived.Test.YtpnboieppkjfnaaGreatG41

/-
  relex of a document, walked.
-/
namespace Go.Proofs.YtpnboieppkjfnaaGreat
open Go.RowKit

theorem heap_setAny {w : World} {a : Addr} {v : Value} {k : Nat} : (w.setCell a v).heap[k]? = if a.block = k then (w.heap[k]?).map (fun | .cells c elem frozen => .cells (if a.spot.isSome then c else c.setIfInBounds a.off v) elem frozen | o => o) else w.heap[k]? := by
  unfold World.setCell
  simp only [Array.getElem?_modify]
  rfl

theorem below_set {w w2 : World} (h : Below w.heap.size w w2) (a : Addr) (v : Value) : Below (w.setCell a v).heap.size (w.setCell a v) (w2.setCell a v) := by
  have hz : (w.setCell a v).heap.size = w.heap.size := by simp [World.setCell]
  have hz2 : (w2.setCell a v).heap.size = w2.heap.size := by simp [World.setCell]
  refine ⟨h.os, h.tape, h.output, by rw [hz, hz2]; exact h.size, fun k hk => ?_⟩
  rw [hz] at hk
  rw [heap_setAny, heap_setAny, h.block k hk]
theorem up_setBoth {W w : World} {e : TypeId} {size n : Nat} {v : Value} {xs : List Value} (h : Up W e size v n xs w) {a : Addr} (ha : a.block < W.heap.size) (u : Value) : Up (W.setCell a u) e size v n xs (w.setCell a u) := by
  have hz : (W.setCell a u).heap.size = W.heap.size := by simp [World.setCell]
  exact ⟨by rw [hz]; exact ownsRow_setCell_below h.1 ha u, below_set h.2 a u⟩
theorem lrow_set {W w : World} {F : ByteArray} {T : TypeId} {v : Value} {lines : List Ln} (h : LRow W F T v lines w) {a : Addr} (ha : a.block < W.heap.size) (u : Value) : LRow (W.setCell a u) F T v lines (w.setCell a u) := by
  obtain ⟨P, h1, h2, h3⟩ := h
  exact ⟨P, h1, up_setBoth h2 ha u, fun p hp => up_setBoth (h3 p hp) ha u⟩

theorem sm_doc {w : World} {p j : Nat} {cs : Array Value} {z : Nat × Nat} (h : w.heap[p]? = some (.cells cs 67 z)) (v : Value) : Sm w (w.setCell ⟨p, j, none⟩ v) := fun k o hk ho => by
  rw [heap_setCell_other w ⟨p, j, none⟩ k _ (fun e => ?_)]
  · exact hk
  · subst e
    rw [hk] at h
    obtain ⟨cs', ty, rfl, -, h2, -⟩ := ho
    simp only [Option.some.injEq, Obj.cells.injEq] at h
    exact h2 h.2.1
theorem AE.At.doc {E : AE} {f n : Nat} {w : World} (h : E.At f n w) {p j : Nat} {cs : Array Value} {z : Nat × Nat} (hd : w.heap[p]? = some (.cells cs 67 z)) (v : Value) : E.At f n (w.setCell ⟨p, j, none⟩ v) := by
  have hs := sm_doc (j := j) hd v
  have hz : w.heap.size = (w.setCell ⟨p, j, none⟩ v).heap.size := by simp [World.setCell]
  have hnode : ∀ b t, E.M b = some t → (w.setCell ⟨p, j, none⟩ v).heap[b]? = w.heap[b]? := fun b t hb => by
    refine heap_setCell_other w ⟨p, j, none⟩ b _ fun e => ?_
    subst e
    obtain ⟨lp, rp, d, st, q, br, h1, _⟩ := h.inv.node _ t hb
    rw [hd] at h1
    simp [nodeObj] at h1
  have hi : Inv E.B [] E.M (w.setCell ⟨p, j, none⟩ v) := h.inv.same (Nat.le_of_eq hz) hnode
  have hpa : E.a ≠ p := fun e => by
    have := h.obj
    rw [e, hd] at this
    simp [anewObj] at this
  refine ⟨hi, ?_, ?_, own_sm h.row hs (by decide), h.read.sm hs⟩
  · rw [heap_setCell_other w ⟨p, j, none⟩ E.a _ hpa]
    exact h.obj
  · rcases h.rope with h1 | ⟨b, q, e, hn, hh, hp⟩
    · exact .inl h1
    · exact .inr ⟨b, q, e, hn, hs _ _ hh ⟨_, _, rfl, by decide, by decide⟩, hp⟩

theorem grown_trans {a b c : World} {r : Option Nat} (h : a.grownBy b r) (k : b.grownBy c r) : a.grownBy c r :=
  ⟨k.os.trans h.os, k.tape.trans h.tape, k.output.trans h.output, Nat.le_trans h.size k.size, fun i hi hr => (k.block i (Nat.lt_of_lt_of_le hi h.size) hr).trans (h.block i hi hr)⟩
theorem grown_below {a b : World} {r : Option Nat} (h : Below a.heap.size a b) : a.grownBy b r := ⟨h.os, h.tape, h.output, h.size, fun i hi _ => h.block i hi⟩
theorem grown_setP (a : World) (p j : Nat) (v : Value) : a.grownBy (a.setCell ⟨p, j, none⟩ v) (some p) :=
  ⟨rfl, rfl, rfl, by simp [World.setCell], fun k _ hr => heap_setCell_other a ⟨p, j, none⟩ k v (fun e => hr (by rw [e]))⟩

theorem doc_is {w : World} {p : Nat} {F : ByteArray} {r : Option Addr} {d st q : Int} {ev : Value} {fr te mo : Int} {lv : Value} {wk : Int} (h : w.heap[p]? = some (docObj F r d st q ev fr te mo lv wk)) : w.heap[p]? = some (.cells #[.string F, .pointer r, .int .u32 d, .int .i32 st, .int .u32 q, ev, .int .i64 fr, .int .i64 te, .int .i64 mo, lv, .int .i64 wk] 67 (0, 0)) := h
theorem doc_set2 {w : World} {p : Nat} {F : ByteArray} {r : Option Addr} {d st q : Int} {ev : Value} {fr te mo : Int} {lv : Value} {wk : Int} (h : w.heap[p]? = some (docObj F r d st q ev fr te mo lv wk)) (u : Int) : (w.setCell ⟨p, 2, none⟩ (.int .u32 u)).heap[p]? = some (docObj F r u st q ev fr te mo lv wk) := heap_setCell_same w p 2 _ _ _ (doc_is h)
theorem doc_set3 {w : World} {p : Nat} {F : ByteArray} {r : Option Addr} {d st q : Int} {ev : Value} {fr te mo : Int} {lv : Value} {wk : Int} (h : w.heap[p]? = some (docObj F r d st q ev fr te mo lv wk)) (u : Int) : (w.setCell ⟨p, 3, none⟩ (.int .i32 u)).heap[p]? = some (docObj F r d u q ev fr te mo lv wk) := heap_setCell_same w p 3 _ _ _ (doc_is h)
theorem doc_set5 {w : World} {p : Nat} {F : ByteArray} {r : Option Addr} {d st q : Int} {ev : Value} {fr te mo : Int} {lv : Value} {wk : Int} (h : w.heap[p]? = some (docObj F r d st q ev fr te mo lv wk)) (u : Value) : (w.setCell ⟨p, 5, none⟩ (u)).heap[p]? = some (docObj F r d st q u fr te mo lv wk) := heap_setCell_same w p 5 _ _ _ (doc_is h)
theorem doc_set6 {w : World} {p : Nat} {F : ByteArray} {r : Option Addr} {d st q : Int} {ev : Value} {fr te mo : Int} {lv : Value} {wk : Int} (h : w.heap[p]? = some (docObj F r d st q ev fr te mo lv wk)) (u : Int) : (w.setCell ⟨p, 6, none⟩ (.int .i64 u)).heap[p]? = some (docObj F r d st q ev u te mo lv wk) := heap_setCell_same w p 6 _ _ _ (doc_is h)
theorem doc_set7 {w : World} {p : Nat} {F : ByteArray} {r : Option Addr} {d st q : Int} {ev : Value} {fr te mo : Int} {lv : Value} {wk : Int} (h : w.heap[p]? = some (docObj F r d st q ev fr te mo lv wk)) (u : Int) : (w.setCell ⟨p, 7, none⟩ (.int .i64 u)).heap[p]? = some (docObj F r d st q ev fr u mo lv wk) := heap_setCell_same w p 7 _ _ _ (doc_is h)
theorem doc_set8 {w : World} {p : Nat} {F : ByteArray} {r : Option Addr} {d st q : Int} {ev : Value} {fr te mo : Int} {lv : Value} {wk : Int} (h : w.heap[p]? = some (docObj F r d st q ev fr te mo lv wk)) (u : Int) : (w.setCell ⟨p, 8, none⟩ (.int .i64 u)).heap[p]? = some (docObj F r d st q ev fr te u lv wk) := heap_setCell_same w p 8 _ _ _ (doc_is h)
theorem doc_set9 {w : World} {p : Nat} {F : ByteArray} {r : Option Addr} {d st q : Int} {ev : Value} {fr te mo : Int} {lv : Value} {wk : Int} (h : w.heap[p]? = some (docObj F r d st q ev fr te mo lv wk)) (u : Value) : (w.setCell ⟨p, 9, none⟩ (u)).heap[p]? = some (docObj F r d st q ev fr te mo u wk) := heap_setCell_same w p 9 _ _ _ (doc_is h)
theorem doc_set10 {w : World} {p : Nat} {F : ByteArray} {r : Option Addr} {d st q : Int} {ev : Value} {fr te mo : Int} {lv : Value} {wk : Int} (h : w.heap[p]? = some (docObj F r d st q ev fr te mo lv wk)) (u : Int) : (w.setCell ⟨p, 10, none⟩ (.int .i64 u)).heap[p]? = some (docObj F r d st q ev fr te mo lv u) := heap_setCell_same w p 10 _ _ _ (doc_is h)

theorem kread_by {K : List (Nat × Int)} {R : List (Ln × List Dg)} {w : World} (h : KRead K R w) : ∀ k ∈ K, -100000 ≤ k.2 ∧ k.2 ≤ 100000 := by
  intro k hk
  obtain ⟨i, hi, rfl⟩ := List.getElem_of_mem hk
  obtain ⟨x, hx⟩ : ∃ x, R[i]? = some x := ⟨_, List.getElem?_eq_getElem (by rw [← h.1]; exact hi)⟩
  exact (h.2 i _ x (List.getElem?_eq_getElem hi) hx).1.1

def RxPost (w : World) (p : Nat) (F : ByteArray) (r : Option Addr) (Ts : List (List UInt8)) (fr te : Nat) (l : List UInt8) (e : Ending) (w' : World) : Prop :=
  e = .returned (.tuple #[]) ∧ ∃ lv wk Ts', w'.heap[p]? = some (docObj F r 0 1 0 (.slice none 0 0) 0 0 0 lv (wk : Nat)) ∧ KRow lv (rows 0 Ts') w' ∧ Pcs Ts' ∧ Ts'.flatten = l ∧ WorkOk Ts fr te l wk ∧ w.grownBy w' (some p)

/-- What is loaded at its beginning. -/
def RxS (p : Nat) (r : Option Addr) (ev : Value) (fr te : Nat) (mo : Int) (w : World) : Prop := w.cell? ⟨p, 1, none⟩ = some (.pointer r) ∧ w.cell? ⟨p, 5, none⟩ = some ev ∧ w.cell? ⟨p, 6, none⟩ = some (.int .i64 (fr : Int)) ∧ w.cell? ⟨p, 7, none⟩ = some (.int .i64 (te : Int)) ∧ w.cell? ⟨p, 8, none⟩ = some (.int .i64 mo)
theorem RxS.next {p : Nat} {r : Option Addr} {ev : Value} {fr te : Nat} {mo : Int} {w w' : World} (h : RxS p r ev fr te mo w) (b : Below w.heap.size w w') (hp : p < w.heap.size) : RxS p r ev fr te mo w' :=
  ⟨bcell b h.1 hp, bcell b h.2.1 hp, bcell b h.2.2.1 hp, bcell b h.2.2.2.1 hp, bcell b h.2.2.2.2 hp⟩

/-- The part is lexed. -/
structure RxMid (E : AE) (w : World) (p : Nat) (F : ByteArray) (r : Option Addr) (f n' : Nat) (Ps : List (List UInt8)) (w2 : World) (la : Option Addr) (ln lc : Nat) (da : Option Addr) (dn dc : Nat) : Prop where
  atE : E.At f n' w2
  pcs : Pcs Ps
  is : Ps.flatten = partN E f n'
  new : Pcs (E.Ts.take f ++ (Ps ++ E.Ts.drop n'))
  text : (E.Ts.take f ++ (Ps ++ E.Ts.drop n')).flatten = E.l
  low : Below w.heap.size w w2
  lines : LRow w Efile 87 (.slice la ln lc) ((rows 0 Ps).map Prod.fst) w2
  diags : DRow w Efile (.slice da dn dc) ((rows 0 Ps).flatMap Prod.snd) w2
  len : ln = Ps.length
  few : Ps.flatten.length ≤ 66000
  doc : w2.heap[p]? = some (docObj F r 0 1 0 E.ev (E.fr : Int) (E.te : Int) E.mf (.slice none 0 0) 0)

set_option maxRecDepth 100000 in
set_option maxHeartbeats 6400000 in
theorem relex_any {B : Nat} {M : Mp} {w : World} {p : Nat} {F : ByteArray} {r : Option Addr} {o : Option T} {ev : Value} {fr te : Nat} {Ts : List (List UInt8)} {l : List UInt8} {K : List (Nat × Int)}
    {mf : Int} (hi : Inv B [] M w) (hd : w.heap[p]? = some (docObj F r 0 1 0 ev (fr : Int) (te : Int) mf (.slice none 0 0) 0)) (hmf : mf = (l.length : Int) - Ts.flatten.length ∨ (Ts = [] ∧ -65536 ≤ mf ∧ mf ≤ 65536)) (hr : RP M w r o) (ho : otext o = l)
    (hrow : w.ownsRow 0 84 2 ev K.length (kcells K)) (hread : KRead K (rows 0 Ts) w) (he : Ed Ts fr te l) :
    Calls Tryz.prog 44 #[.pointer (some ⟨p, 0, none⟩)] w (RxPost w p F r Ts fr te l) := by
  obtain ⟨mo, hmo⟩ : ∃ mo, (l.length : Int) - Ts.flatten.length = mo := ⟨_, rfl⟩
  obtain ⟨E, hE⟩ : ∃ E : AE, E = ⟨B, M, w.heap.size + 1, ev, r, o, Ts, fr, te, mo, l, K, mf⟩ := ⟨_, rfl⟩
  have hok : E.Ok := by
    have e1 := he.old
    have e2 := he.new
    rw [hE]
    refine ⟨ho, hmo.symm, he.old, he.new, ?_, ?_⟩
    · rcases hmf with h | h
      · exact .inl (h.trans hmo)
      · exact .inr h.1
    · show -65536 ≤ mf ∧ mf ≤ 65536
      rcases hmf with h | h
      · omega
      · exact h.2
  have hed : Ed E.Ts E.fr E.te E.l := by rw [hE]; exact he
  have hgeo := geo_any hok hed
  have hp : p < w.heap.size := row_lt hd
  obtain ⟨ad, cap, hev, hc1, hc2, -⟩ := krow_form hrow
  have HEV := Lib.hid hev
  have hcell : RxS p r ev fr te mf w := by
    refine ⟨?_, ?_, ?_, ?_, ?_⟩ <;> (rw [Lib.cell_of_heap hd]; rfl)
  have HTO : Hid (Calls Tryz.prog 68 #[.agg #[ev, .int .i64 (fr : Int), .int .i64 (te : Int), .int .i64 mf], .pointer r] w.drew (TPost E w.drew)) := Lib.hid (by
    have hb : Below w.heap.size w w.drew := (Below.refl _ _).drew
    have k : Kr B [] M w M w.drew := Kr.of_below hi hb
    have h := touched_any (E := E) (w := w.drew) (by rw [hE]; rfl) (by rw [hE]; exact k.inv) (by rw [hE]; exact hr.ext hi k (Sm.below hb)) (by rw [hE]; exact own_sm hrow (Sm.below hb) (by decide)) (by rw [hE]; exact hread.sm (Sm.below hb)) hok hgeo
    rw [hE] at h ⊢
    exact h)
  have HS0 : Hid (RxS p r ev fr te mf w.drew) := Lib.hid hcell
  have HE := Lib.hid hE
  have HOK := Lib.hid hok
  have HED := Lib.hid hed
  have HGEO := Lib.hid hgeo
  have HD := Lib.hid hd
  have HMO := Lib.hid hmo
  have HEA : Hid (E.a = w.heap.size + 1) := Lib.hid (by rw [hE])
  subst hev
  clear hE hok hed hgeo hd hmo hmf hrow hread he hi hr ho hcell
  go_enter Tryz.func44, Tryz.ntmps44
  go_wp2
  go_region_held3 (fun w' => w'.cell? ⟨p, 1, none⟩ = some (.pointer r) ∧ w'.cell? ⟨p, 5, none⟩ = some (.slice ad K.length cap) ∧ w'.cell? ⟨p, 6, none⟩ = some (.int .i64 (fr : Int)) ∧ w'.cell? ⟨p, 7, none⟩ = some (.int .i64 (te : Int)) ∧ w'.cell? ⟨p, 8, none⟩ = some (.int .i64 mf))
    (first | exact HS0.out | exact HS1.out)
    (first | (go_at_call 68; (with_reducible refine HTO.out.mono ?_); rintro e w1 ⟨rfl, f, n, hat, hts, hb1⟩; have HA1 := Lib.hid hat; have HTS := Lib.hid hts; have HS1 := Lib.hid (HS0.out.next hb1 hp); have HB1 : Hid (Below w.heap.size w w1) := Lib.hid (Below.of_drew (w := w) hb1); clear hat hts hb1))
  have hlf := t_cases HTS.out
  have HLX : Hid (Calls Tryz.prog 69 #[.pointer (some ⟨E.a, 0, none⟩)] w1 (LxPost E f n w)) := Lib.hid (lexA_any (W := w) HB1.out (by rw [HEA.out]; omega) HA1.out HOK.out HGEO.out hlf.1 HTS.out.1 HTS.out.2.1 (open_steps HOK.out HED.out HTS.out) (fun m h1 h2 => plaN_mono HOK.out HED.out (Nat.le_succ m) h2))
  clear hlf
  have HIN : Hid (∀ (n' : Nat) (w2 : World) (la : Option Addr) (ln lc : Nat) (da : Option Addr) (dn dc : Nat), E.At f n' w2 → LSpec E f n n' → Below w.heap.size w w2 → LRow w Efile 87 (.slice la ln lc) (FL (partN E f n')).lines w2 → DRow w Efile (.slice da dn dc) (FL (partN E f n')).diags w2 → ∃ Ps, RxMid E w p F r f n' Ps w2 la ln lc da dn dc) := Lib.hid (by
    intro n' w2 la ln lc da dn dc hat hls hb hl hd
    obtain ⟨Ps, hP, hPf, hnew, hnewf⟩ := new_pieces HOK.out HED.out HTS.out hls
    have hr := FL_rows hP
    rw [hPf] at hr
    rw [hr.1] at hl
    rw [hr.2] at hd
    refine ⟨Ps, hat, hP, hPf, hnew, hnewf, hb, hl, hd, ?_, ?_, ?_⟩
    · obtain ⟨P, h1, h2, -⟩ := hl
      obtain ⟨_, _, hv, -⟩ := row_form h2.1
      simp only [Value.slice.injEq] at hv
      rw [hv.2.1, ← List.length_map (f := Prod.snd), h1, List.length_map, rows_len]
    · rw [hPf]
      have h1 := partN_len E f n'
      have h2 := HOK.out.new
      omega
    · rw [hb.block p hp, HD.out]
      have := HE.out
      rw [this])
  go_wp2_with (go_at_call 69; (with_reducible refine HLX.out.mono ?_); rintro e w2 ⟨n', hat2, hls, hb2, la, ln, lc, da, dn, dc, rfl, hl2, hd2⟩; have HLS := Lib.hid hls; have hmid := HIN.out n' w2 la ln lc da dn dc hat2 hls hb2 hl2 hd2; clear hat2 hls hb2 hl2 hd2)
  obtain ⟨Ps, hm⟩ := hmid
  have HM := Lib.hid hm
  have c10 : w2.cell? ⟨p, 10, none⟩ = some (.int .i64 0) := by rw [Lib.cell_of_heap hm.doc]; rfl
  have z10 : w2.frozen? ⟨p, 10, none⟩ = false := frozen_of_row w2 p 10 _ _ hm.doc
  have hlnb : ln ≤ 70000 := by
    have h1 := few_pieces hm.pcs
    have h2 := hm.few
    have h3 := hm.len
    omega
  clear hm
  go_wp2_with (go_at_call 70; (with_reducible refine (addN_any ⟨p, 10, none⟩ rfl ln (by omega) _ c10 z10).mono ?_); rintro e w' ⟨rfl, rfl⟩)
  have hz3 : (w.setCell ⟨p, 10, none⟩ (.int .i64 (ln : Int))).heap.size = w.heap.size := by simp [World.setCell]
  have HA3 : Hid (E.At f n' (w2.setCell ⟨p, 10, none⟩ (.int .i64 (ln : Int)))) := Lib.hid (HM.out.atE.doc HM.out.doc _)
  have HL3 : Hid (LRow (w.setCell ⟨p, 10, none⟩ (.int .i64 (ln : Int))) Efile 87 (.slice la ln lc) ((rows 0 Ps).map Prod.fst) (w2.setCell ⟨p, 10, none⟩ (.int .i64 (ln : Int)))) := Lib.hid (lrow_set HM.out.lines hp _)
  have HDD3 : Hid (DRow (w.setCell ⟨p, 10, none⟩ (.int .i64 (ln : Int))) Efile (.slice da dn dc) ((rows 0 Ps).flatMap Prod.snd) (w2.setCell ⟨p, 10, none⟩ (.int .i64 (ln : Int)))) := Lib.hid (up_setBoth HM.out.diags hp _)
  have HO3 : Hid ((w2.setCell ⟨p, 10, none⟩ (.int .i64 (ln : Int))).heap[p]? = some (docObj F r 0 1 0 E.ev (E.fr : Int) (E.te : Int) E.mf (.slice none 0 0) (ln : Int))) := Lib.hid (by
    have h := HM.out.doc
    unfold docObj at h ⊢
    exact heap_setCell_same w2 p 10 _ _ _ h)
  have HG3 : Hid (w.grownBy (w2.setCell ⟨p, 10, none⟩ (.int .i64 (ln : Int))) (some p)) := Lib.hid (grown_trans (grown_below HM.out.low) (grown_setP _ _ _ _))
  have hf := (t_cases HTS.out).1
  have hft : f ≤ E.Ts.length := Nat.le_trans hf HGEO.out.lf
  obtain ⟨w3, hw3⟩ : ∃ w3, w2.setCell ⟨p, 10, none⟩ (.int .i64 (ln : Int)) = w3 := ⟨_, rfl⟩
  rw [hw3] at HA3 HL3 HDD3 HO3 HG3 ⊢
  have hp3 : p < w3.heap.size := row_lt HO3.out
  clear hw3 c10 z10 hz3
  have hpb : pre E.Ts f ≤ 70000 := by
    have h1 := pre_le E.Ts f
    have h2 := HOK.out.old
    omega
  have HBG : Hid (Calls Tryz.prog 73 #[.pointer (some ⟨E.a, 0, none⟩)] w3 (NatBel (pre E.Ts f) w3)) := Lib.hid (by
    have h := begin_any HA3.out hft
    rw [begN2_eq HED.out hf] at h
    exact h)
  have HKE : Hid (∀ X : World, Below w3.heap.size w3 X → Calls Tryz.prog 72 #[.slice la ln lc, .slice da dn dc, .int .i64 (pre E.Ts f : Int)] X (KpPost X (rows (pre E.Ts f) Ps))) := Lib.hid (fun X hX => keep_any (LRow.over HL3.out hX) (DRow.over HDD3.out hX) HM.out.pcs HM.out.few (pre E.Ts f) hpb)
  have hls := HLS.out
  have HAM : Hid (∀ (X : World) (Kp : List (Nat × Int)) (pa : Option Addr) (pn pc : Nat), Below w3.heap.size w3 X → pn = Kp.length → X.ownsRow 0 84 2 (.slice pa pn pc) pn (kcells Kp) → pn ≤ 70000 → Calls Tryz.prog 71 #[.pointer (some ⟨E.a, 0, none⟩), .slice pa pn pc] X (AmPost X (E.K.take f ++ Kp ++ shiftK E.mo (E.K.drop n')))) := Lib.hid (fun X Kp pa pn pc hX h1 h2 h3 => among_any (HA3.out.below hX) HOK.out (by
    have h4 := lf_n0 HED.out
    have h5 := HTS.out.1
    have h6 := hls.1
    omega) hls.2.1 (HGEO.out.few) h1 h2 h3 (kread_by HA3.out.read))
  have HKB : Hid (∀ (Kp : List (Nat × Int)) (kn : Nat), kn = Kp.length → Kp.length = (rows (pre E.Ts f) Ps).length → kn ≤ 70000) := Lib.hid (fun Kp kn h1 h2 => by
    rw [rows_len] at h2
    have h3 := HM.out.len
    omega)
  have HC6 : Hid (∀ X : World, Below w3.heap.size w3 X → X.heap[p]? = some (docObj F r 0 1 0 E.ev (E.fr : Int) (E.te : Int) E.mf (.slice none 0 0) (ln : Int)) ∧ X.cell? ⟨p, 9, none⟩ = some (.slice none 0 0) ∧ X.cell? ⟨p, 5, none⟩ = some E.ev ∧ X.cell? ⟨p, 6, none⟩ = some (.int .i64 (E.fr : Int)) ∧ X.cell? ⟨p, 7, none⟩ = some (.int .i64 (E.te : Int)) ∧ X.cell? ⟨p, 8, none⟩ = some (.int .i64 E.mf) ∧ ∀ j, X.frozen? ⟨p, j, none⟩ = false) := Lib.hid (fun X hX => by
    have h : X.heap[p]? = _ := (hX.block p hp3).trans HO3.out
    refine ⟨h, ?_⟩
    unfold docObj at h
    exact ⟨by rw [Lib.cell_of_heap h]; rfl, by rw [Lib.cell_of_heap h]; rfl, by rw [Lib.cell_of_heap h]; rfl, by rw [Lib.cell_of_heap h]; rfl, by rw [Lib.cell_of_heap h]; rfl, fun j => frozen_of_row X p j _ _ h⟩)
  obtain ⟨pf, hpf⟩ : ∃ pf, pre E.Ts f = pf := ⟨_, rfl⟩
  have HPF := Lib.hid hpf
  rw [hpf] at hpb HBG HKE HKB
  clear hpf hls hf hft
  go_wp2_with (first
    | (go_at_call 73; (with_reducible refine HBG.out.mono ?_); rintro e w4 ⟨rfl, hb4⟩; have HB4 := Lib.hid hb4; clear hb4)
    | (go_at_call 72; (with_reducible refine (HKE.out _ HB4.out).mono ?_); rintro e w5 ⟨Kp, ka, kn, kc, rfl, hkn, hku, hkr⟩; have HKN := Lib.hid hkn; have HKU := Lib.hid hku; have HKR := Lib.hid hkr; have HB5 : Hid (Below w3.heap.size w3 w5) := Lib.hid (below_up HB4.out hku.2); have HKF : Hid (kn ≤ 70000) := Lib.hid (HKB.out Kp kn hkn hkr.1); clear hkn hku hkr))
  refine (HAM.out w5 Kp ka kn kc HB5.out HKN.out (row_low HKU.out.1 (Nat.zero_le _)) HKF.out).mono ?_
  rintro e w6 ⟨ma, mn, mc, rfl, hmn, hmu⟩
  have HMN := Lib.hid hmn
  have HMU := Lib.hid hmu
  have HB6 : Hid (Below w3.heap.size w3 w6) := Lib.hid (below_up HB5.out hmu.2)
  obtain ⟨hd6, c9, c5, c6, c7, c8, z6⟩ := HC6.out w6 HB6.out
  have z9 := z6 9
  have z5 := z6 5
  have z66 := z6 6
  have z7 := z6 7
  have z8 := z6 8
  have HD6 := Lib.hid hd6
  clear hmn hmu z6 hd6
  have hfin : RxPost w p F r Ts fr te l (.returned (.tuple #[])) (((((w6.setCell ⟨p, 9, none⟩ (.slice ma mn mc)).setCell ⟨p, 5, none⟩ (.slice none 0 0)).setCell ⟨p, 6, none⟩ (.int .i64 0)).setCell ⟨p, 7, none⟩ (.int .i64 0)).setCell ⟨p, 8, none⟩ (.int .i64 0)) := by
    have hmn := HMN.out
    clear HMN
    subst hmn
    have h := HD6.out
    have h1 := doc_set9 h (.slice ma (E.K.take f ++ Kp ++ shiftK E.mo (E.K.drop n')).length mc)
    have h2 := doc_set5 h1 (.slice none 0 0)
    have h3 := doc_set6 h2 0
    have h4 := doc_set7 h3 0
    have h5 := doc_set8 h4 0
    have hs : Sm w6 (((((w6.setCell ⟨p, 9, none⟩ (.slice ma (E.K.take f ++ Kp ++ shiftK E.mo (E.K.drop n')).length mc)).setCell ⟨p, 5, none⟩ (.slice none 0 0)).setCell ⟨p, 6, none⟩ (.int .i64 0)).setCell ⟨p, 7, none⟩ (.int .i64 0)).setCell ⟨p, 8, none⟩ (.int .i64 0)) := ((((sm_doc (doc_is h) _).trans (sm_doc (doc_is h1) _)).trans (sm_doc (doc_is h2) _)).trans (sm_doc (doc_is h3) _)).trans (sm_doc (doc_is h4) _)
    have hls := HLS.out
    have hf := (t_cases HTS.out).1
    have hfn : f ≤ n' := by
      have e1 := lf_n0 HED.out
      have e2 := HTS.out.1
      have e3 := hls.1
      omega
    have hkr := HKR.out
    rw [← HPF.out] at hkr
    have hread := among_read HOK.out HED.out hf hfn (Nat.le_trans HTS.out.1 hls.1) hls.2.1 HM.out.is HM.out.new HM.out.text (HA3.out.read.sm (Sm.below HB6.out)) (hkr.sm (Sm.below HMU.out.2))
    have hrow8 : (((((w6.setCell ⟨p, 9, none⟩ (.slice ma (E.K.take f ++ Kp ++ shiftK E.mo (E.K.drop n')).length mc)).setCell ⟨p, 5, none⟩ (.slice none 0 0)).setCell ⟨p, 6, none⟩ (.int .i64 0)).setCell ⟨p, 7, none⟩ (.int .i64 0)).setCell ⟨p, 8, none⟩ (.int .i64 0)).ownsRow 0 84 2 (.slice ma (E.K.take f ++ Kp ++ shiftK E.mo (E.K.drop n')).length mc) (E.K.take f ++ Kp ++ shiftK E.mo (E.K.drop n')).length (kcells (E.K.take f ++ Kp ++ shiftK E.mo (E.K.drop n'))) := own_sm (row_low HMU.out.1 (Nat.zero_le _)) hs (by decide)
    have hkrow : KRow (.slice ma (E.K.take f ++ Kp ++ shiftK E.mo (E.K.drop n')).length mc) (rows 0 (E.Ts.take f ++ (Ps ++ E.Ts.drop n'))) (((((w6.setCell ⟨p, 9, none⟩ (.slice ma (E.K.take f ++ Kp ++ shiftK E.mo (E.K.drop n')).length mc)).setCell ⟨p, 5, none⟩ (.slice none 0 0)).setCell ⟨p, 6, none⟩ (.int .i64 0)).setCell ⟨p, 7, none⟩ (.int .i64 0)).setCell ⟨p, 8, none⟩ (.int .i64 0)) := ⟨_, hrow8, hread.sm hs⟩
    refine ⟨rfl, .slice ma (E.K.take f ++ Kp ++ shiftK E.mo (E.K.drop n')).length mc, ln, E.Ts.take f ++ (Ps ++ E.Ts.drop n'), ?_, ?_, ?_, ?_, ?_, ?_⟩
    · exact h5
    · exact hkrow
    · exact HM.out.new
    · rw [HM.out.text, HE.out]
    · have ht := HTS.out
      have hl3 : ln = (FL (partN E f n')).lines.length := by
        rw [HM.out.len, ← HM.out.is, (FL_rows HM.out.pcs).1, List.length_map, rows_len]
      have hs0 : E.Same (E0 Ts fr te ((l.length : Int) - Ts.flatten.length) l) := by
        rw [HE.out]
        exact ⟨rfl, rfl, rfl, HMO.out.symm, rfl⟩
      exact ⟨f, n, n', hs0.tspec ht, hs0.lspec hls, by rw [hl3, hs0.part]⟩
    · exact grown_trans (grown_trans (grown_trans (grown_trans (grown_trans (grown_trans HG3.out (grown_below HB6.out)) (grown_setP _ _ _ _)) (grown_setP _ _ _ _)) (grown_setP _ _ _ _)) (grown_setP _ _ _ _)) (grown_setP _ _ _ _)
  have HFIN := Lib.hid hfin
  clear hfin
  go_wp2
  go_end0
  exact HFIN.out

end Go.Proofs.YtpnboieppkjfnaaGreat
