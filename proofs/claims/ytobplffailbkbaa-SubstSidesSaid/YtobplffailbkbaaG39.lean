/-
  Texts of the proof, put together: SuK.
-/
import Derived.Test.YtobplffailbkbaaG36
import Derived.Deep.DeepCutAuto
import Derived.Deep.Cut

/-
  The last token and the next one, where they are one: the project's grow, walked.
-/
namespace Go.Proofs.Ytobplffailbkbaa
open Go.RowKit Go.Maps

theorem RW.tok9 {V : World} {r : Nat} {S : Rw} {k g : Nat} {u : Xt} {tc : Nat} {fa : Option Addr} {fc : Nat} {da : Option Addr} {dc : Nat} {xa : Option Addr} {xc : Nat} {w : World} {sa : Option Addr} {sn sc : Nat} (h : RW V r S (some ⟨g, 0, none⟩) tc fa fc da dc xa xc w) (hk : k < S.T.length) (hs : HeldIn (Deep V r) w (SitsA u.ss (.slice sa sn sc))) :
    RW V r { S with T := S.T.set k u } (some ⟨g, 0, none⟩) tc fa fc da dc xa xc ((((((((w.setCell ⟨g, k * 8, none⟩ (.int .i64 u.k)).setCell ⟨g, k * 8 + 1, none⟩ (.string u.x)).setCell ⟨g, k * 8 + 2, none⟩ (.bool u.sp)).setCell ⟨g, k * 8 + 3, none⟩ (.string u.g)).setCell ⟨g, k * 8 + 4, none⟩ (.int .i64 u.f)).setCell ⟨g, k * 8 + 5, none⟩ (.int .i64 u.t)).setCell ⟨g, k * 8 + 6, none⟩ (.bool u.d)).setCell ⟨g, k * 8 + 7, none⟩ (.slice sa sn sc)) ∧ w.grownBy ((((((((w.setCell ⟨g, k * 8, none⟩ (.int .i64 u.k)).setCell ⟨g, k * 8 + 1, none⟩ (.string u.x)).setCell ⟨g, k * 8 + 2, none⟩ (.bool u.sp)).setCell ⟨g, k * 8 + 3, none⟩ (.string u.g)).setCell ⟨g, k * 8 + 4, none⟩ (.int .i64 u.f)).setCell ⟨g, k * 8 + 5, none⟩ (.int .i64 u.t)).setCell ⟨g, k * 8 + 6, none⟩ (.bool u.d)).setCell ⟨g, k * 8 + 7, none⟩ (.slice sa sn sc)) (some g) := by
  have hT := h.toks.put hk u hs
  have hg2 : w.grownBy ((((((((w.setCell ⟨g, k * 8, none⟩ (.int .i64 u.k)).setCell ⟨g, k * 8 + 1, none⟩ (.string u.x)).setCell ⟨g, k * 8 + 2, none⟩ (.bool u.sp)).setCell ⟨g, k * 8 + 3, none⟩ (.string u.g)).setCell ⟨g, k * 8 + 4, none⟩ (.int .i64 u.f)).setCell ⟨g, k * 8 + 5, none⟩ (.int .i64 u.t)).setCell ⟨g, k * 8 + 6, none⟩ (.bool u.d)).setCell ⟨g, k * 8 + 7, none⟩ (.slice sa sn sc)) (some g) :=
    (((((((grown_setS _ _ _ _).trans (grown_setS _ _ _ _)).trans (grown_setS _ _ _ _)).trans (grown_setS _ _ _ _)).trans (grown_setS _ _ _ _)).trans (grown_setS _ _ _ _)).trans (grown_setS _ _ _ _)).trans (grown_setS _ _ _ _)
  exact ⟨h.toksput hg2 hT (by rw [List.length_set]), hg2⟩
theorem RW.text9 {V : World} {r : Nat} {S : Rw} {x : List UInt8} {ta : Option Addr} {tc : Nat} {fa : Option Addr} {fc : Nat} {da : Option Addr} {dc : Nat} {xa : Option Addr} {xc : Nat} {w : World} {bx xn xc' : Nat} (h : RW V r S ta tc fa fc da dc xa xc w) (hn : S.T ≠ []) (hx : BZ V x (.slice (some ⟨bx, 0, none⟩) xn xc') w) (hxn : xn = x.length) :
    RW V r { S with x := x } ta tc fa fc da dc (some ⟨bx, 0, none⟩) xc' (w.setCell ⟨r, 8, none⟩ (.slice (some ⟨bx, 0, none⟩) xn xc')) := by
  subst hxn
  have hob := h.obj
  unfold rowObj at hob
  have hrx : bx ≠ r := by
    have h1 := (hx.home bx rfl).1
    have := h.lt
    omega
  exact h.put (S' := { S with x := x }) 8 _ ((row_set hob 8 _).trans rfl) rfl rfl rfl (hx.keep fun p hp => heap_setCell_other _ _ _ _ (by
    simp only [Option.some.injEq, Addr.mk.injEq, and_true] at hp
    rw [← hp]
    exact hrx)) fun _ => hn
theorem bz_grown {V : World} {x : List UInt8} {bx xn xc : Nat} {w w' : World} {g : Nat} {e : TypeId} (hx : BZ V x (.slice (some ⟨bx, 0, none⟩) xn xc) w) (hg : w.grownBy w' (some g)) (hk : KindAt w g e) (he : 5 ≠ e) : BZ V x (.slice (some ⟨bx, 0, none⟩) xn xc) w' :=
  hx.keep fun p hp => by
    obtain ⟨-, h2⟩ := hx.home p hp
    exact hg.block p h2.lt fun e' => h2.ne hk he (Option.some.inj e')
theorem conv_at {V W : World} {S : Rw} {r : Nat} {ta : Option Addr} {tc : Nat} {fa : Option Addr} {fc : Nat} {da : Option Addr} {dc : Nat} {xa : Option Addr} {xc : Nat} (h : RW V r S ta tc fa fc da dc xa xc W) (s : ByteArray) (hs : s.size ≤ 100000) : ∃ Y c, (convert 9 35 (.string s)).run Try.prog W = .ok (.slice (some ⟨W.heap.size, 0, none⟩) s.size c) Y ∧ BZ V s.data.toList (.slice (some ⟨W.heap.size, 0, none⟩) s.size c) Y ∧ Below W.heap.size W Y := by
  obtain ⟨h1, h2, h3⟩ := BZ.new V W s h.size (by omega)
  exact ⟨_, _, h1, h2, h3⟩
theorem tok_cells {V : World} {r : Nat} {S : Rw} {k g tc : Nat} {fa : Option Addr} {fc : Nat} {da : Option Addr} {dc : Nat} {xa : Option Addr} {xc : Nat} {w : World} (h : RW V r S (some ⟨g, 0, none⟩) tc fa fc da dc xa xc w) (hk : k < S.T.length) : ∃ sa sn sc, TokX S.T[k] (.slice sa sn sc) g (k * 8) w ∧ True := by
  obtain ⟨g', sa, sn, sc, hg, -, -, -, ht, -⟩ := h.toks.tok (List.getElem?_eq_getElem hk)
  simp only [Option.some.injEq, Addr.mk.injEq, and_true] at hg
  subst hg
  exact ⟨sa, sn, sc, ht, trivial⟩
/-- Behind the call: the new token's box. -/
def Mid6 (V : World) (r : Nat) (S : Rw) (k : Nat) (l u : Xt) (g tc q fc : Nat) (da : Option Addr) (dc : Nat) (v6 v7 : Value) (X : World) : Prop :=
  ∃ mb xa xc ra rn rc, v6 = .pointer (some ⟨mb, 0, none⟩) ∧ v7 = .bool true ∧ Js V r S k l (some ⟨g, 0, none⟩) tc (some ⟨q, 0, none⟩) fc da dc xa xc X ∧ X.heap[mb]? = some (.cells #[.int .i64 u.k, .string u.x, .bool u.sp, .string u.g, .int .i64 u.f, .int .i64 u.t, .bool u.d, .slice ra rn rc] 26 (0, 0)) ∧ HeldIn (Deep V r) X (SitsA l.ss (.slice ra rn rc)) ∧ g ≠ mb ∧ q ≠ mb
theorem nest_size {w : World} {g k : Nat} {v0 v1 v2 v3 v4 v5 v6 v7 : Value} : ((((((((w.setCell ⟨g, k * 8, none⟩ v0).setCell ⟨g, k * 8 + 1, none⟩ v1).setCell ⟨g, k * 8 + 2, none⟩ v2).setCell ⟨g, k * 8 + 3, none⟩ v3).setCell ⟨g, k * 8 + 4, none⟩ v4).setCell ⟨g, k * 8 + 5, none⟩ v5).setCell ⟨g, k * 8 + 6, none⟩ v6).setCell ⟨g, k * 8 + 7, none⟩ v7).heap.size = w.heap.size := by
  simp [World.setCell]

theorem anyT_takeD {P : Program} {ops : Array Oper} {Q : Exit → Act → World → Prop} {md : Region.Mode} {S : World → Prop} {st : Nat} (i : Nat) (D : List Nat) (d : Tmp) {oi : Oper} {v : Value} {m : Nat} {done : Array Bool} {a : Act} {w : World} (hi : ops[i]? = some oi) (hd : oi.dst = some d)
    (hs : (Region.noSelect ops && Region.free md ops done i && (Region.ready md ops done).contains i && waitsB md ops i D && D.contains st && D.all fun d => !(done.getD d false)) = true)
    (hQ : ∀ c a w, Q (.panic c) (a.put oi.dst v) w → Q (.panic c) a w) (hy : YieldsIf P ops S oi v a) (hS : S w)
    (h : anyT P md ops Q S st m (done.setIfInBounds i true) { a with tmps := a.tmps.setIfInBounds d v } w) : anyT P md ops Q S st (m + 1) done a w :=
  anyT_take i D hi hs hQ hy hS (by rw [hd]; exact h)

set_option linter.unusedSimpArgs false in
set_option maxRecDepth 100000 in
set_option maxHeartbeats 12800000 in
theorem grow_some {V : World} {r : Nat} {S : Rw} {ta : Option Addr} {tc : Nat} {fa : Option Addr} {fc : Nat} {da : Option Addr} {dc : Nat} {xa : Option Addr} {xc : Nat} {w : World} (h : RW V r S ta tc fa fc da dc xa xc w) (hf : RwFit S) (t : Xt) (sa : Option Addr) (sn sc : Nat) {l : Xt} (hl : S.T[S.T.length - 1]? = some l)
    (hsz : t.x.size ≤ 50000) (hlz : l.x.size ≤ 50000 ∧ S.x.length ≤ 50000) (hx : ¬ (S.x ≠ [] ∧ growL l.k (S.x.getLast?.getD 0) t.x.data.toList = true)) {u : Xt} (hju : joinL (if S.x = [] then l else { l with x := ⟨S.x.toArray⟩ }) t = some u) :
    Calls Try.prog 53 #[.pointer (some ⟨r, 0, none⟩), tokA t (.slice sa sn sc)] w (GrowPost V r w (growR S t).1 (growR S t).2) := by
  have hw1 : Below w.heap.size w (w.alloc (.cells #[.int .i64 t.k, .string t.x, .bool t.sp, .string t.g, .int .i64 t.f, .int .i64 t.t, .bool t.d, .slice sa sn sc] 26)) := (Below.refl _ _).alloc (Nat.le_refl _) _
  have hG : Gr V r S t (.slice sa sn sc) w.heap.size l ta tc fa fc da dc xa xc (w.alloc (.cells #[.int .i64 t.k, .string t.x, .bool t.sp, .string t.g, .int .i64 t.f, .int .i64 t.t, .bool t.d, .slice sa sn sc] 26)) := ⟨h.over hw1, heap_alloc_new w _, hl, by have := row_lt h.obj; omega, fun e => by
    have := (h.toks.kind _ e).2.lt
    omega⟩
  obtain ⟨w1, hw⟩ : ∃ w1, w.alloc (.cells #[.int .i64 t.k, .string t.x, .bool t.sp, .string t.g, .int .i64 t.f, .int .i64 t.t, .bool t.d, .slice sa sn sc] 26) = w1 := ⟨_, rfl⟩
  obtain ⟨b0, hb0⟩ : ∃ b0, w.heap.size = b0 := ⟨_, rfl⟩
  rw [hw, hb0] at hG
  have HFR1 : Hid (∀ (n : Nat) (X : World), Fr (w1.drewN n) X → Fr w X) := Lib.hid (fun n X h => Fr.trans (b := w1) (by rw [← hw]; exact Fr.below hw1) h)
  have hlen := (List.getElem?_eq_some_iff.1 hl).1
  obtain ⟨k, hk⟩ : ∃ k, S.T.length = k + 1 := ⟨S.T.length - 1, by omega⟩
  have hfk := hf.toks
  have HSE : Hid (∀ X : World, Below w1.heap.size w1 X → Calls Try.prog 55 #[.pointer (some ⟨r, 0, none⟩)] X (SettleOk V r S t (.slice sa sn sc) b0 l ta tc fa fc da dc X)) := Lib.hid (fun X hX => (hG.over hX).settle hf)
  obtain ⟨g, la, ln, lc, rfl, -, -, -, ⟨c0, -⟩, -, hc1, hc2⟩ := hG.row.toks.tok hl
  obtain ⟨q, rfl⟩ := row_from h (by omega)
  obtain ⟨k0, -, -, -, -, -, -, -, k8, -⟩ := hG.row.cells
  rw [hk] at k0 hc1 c0
  rw [Nat.add_sub_cancel] at c0
  have hbox := (boxT hG.box).2.1
  have HBZ := Lib.hid hG.row.txt
  have HX := Lib.hid hx
  unfold maxLen at hc2
  have HK := Lib.hid hk
  have HSX := Lib.hid (show (if S.x = [] then l else { l with x := ⟨S.x.toArray⟩ }).x.size ≤ 50000 from by
    split
    · exact hlz.1
    · exact hlz.2)
  have HNO := Lib.hid (fun hj => growR_none (S := S) (t := t) hl hx hj)
  have HYE := Lib.hid (fun u hj => growR_some (S := S) (t := t) (u := u) hl hx hj)
  obtain ⟨l', hl'⟩ : ∃ l', (if S.x = [] then l else { l with x := ⟨S.x.toArray⟩ }) = l' := ⟨_, rfl⟩
  have hJJ : ∀ (a b : Option Addr) (c d e f : Nat) (X : World), Calls Try.prog 21 #[tokA l' (.slice a c d), tokA t (.slice b e f)] X (JoinPost X l' t (.slice a c d)) := fun a b c d e f X => joined_any2 l' t a c d b e f X (by
    have := HSX.out
    rw [hl'] at this
    omega)
  have HJJ := Lib.hid hJJ
  unfold SettleOk at HSE
  rw [hl'] at HSE HNO HYE
  clear hJJ
  have HTZ := Lib.hid hsz
  have HXZ := Lib.hid hlz.2
  have HST9 := Lib.hid (fun u => grow_state (u := u) hk h.same hl)
  have hsub : IntKind.i64.wrap (k : Int) = (k : Int) := IntWalk.i64_in _ (by omega)
  have hk0 : (0 : Int) ≤ (k : Int) := by omega
  have hk1 : (k : Int) < (k : Int) + 1 := by omega
  rw [hl'] at hju
  have HQ : Hid (∀ (a b : Option Addr) (c d e f : Nat) (X : World), Calls Try.prog 21 #[tokA l' (.slice a c d), tokA t (.slice b e f)] X (fun e w' => e = .returned (.tuple #[tokA u (.slice a c d), .bool true]) ∧ Below X.heap.size X w')) := Lib.hid (fun a b c d e f X => (HJJ.out a b c d e f X).mono fun e w' h => by unfold JoinPost at h; rw [hju] at h; exact h)
  have HUS := Lib.hid (join_ss hju)
  have HUZ : Hid (u.x.size ≤ 100000) := Lib.hid (by
    have h1 := join_size hju
    have h2 := HSX.out
    rw [hl'] at h2
    omega)
  rw [HYE.out u hju, HST9.out u]
  clear hju HNO HYE HJJ h hf hl hsz hlz hx hG hlen hk hfk hl' hw1 HSX HST9
  have HXS : Hid (S.x = [] ∨ S.x ≠ []) := Lib.hid (Classical.em _)
  go_enter Try.func53, Try.ntmps53
  go_upto_region 2 with (fail)
  clear hw
  go_cut [44] (fun v wx => v = .bool false ∧ ∃ n, wx = w1.drewN n)
  case first =>
    rcases HXS.out with hx0 | hx0
    · have hl0 : S.x.length = 0 := by rw [hx0]; rfl
      rw [hl0] at k8
      clear hx0 hl0 c0
      go_quiet (fail)
      go_wp2_with (fail)
      go_meet
      exact ⟨rfl, _, rfl⟩
    · obtain ⟨nx, hnx⟩ : ∃ n, S.x.length = n + 1 := ⟨S.x.length - 1, by have := List.length_pos_iff.2 hx0; omega⟩
      obtain ⟨gx, bb, rfl, hbb, cb, hx1, hx2⟩ := bz_byte HBZ.out hnx
      have hgf : growL l.k bb t.x.data.toList = false := by
        have h1 := HX.out
        rw [last_at hnx hbb] at h1
        cases hg : growL l.k bb t.x.data.toList with
        | false => rfl
        | true => exact absurd ⟨hx0, hg⟩ h1
      have HG : Hid (∀ X : World, Calls Try.prog 74 #[.int .i64 l.k, .int .u8 (bb.toNat : Int), .string t.x] X (BoolDrew false X)) := Lib.hid (fun X => hgf ▸ grows_any l.k bb t.x X (by have := HTZ.out; omega))
      have hnx5 : (nx : Int) ≤ 100000 := by have := HXZ.out; omega
      rw [hnx] at k8 hx1
      have hsub2 : IntKind.i64.wrap (nx : Int) = (nx : Int) := IntWalk.i64_in _ (by omega)
      have hq0 : (0 : Int) ≤ (nx : Int) := by omega
      have hq1 : (nx : Int) < (nx : Int) + 1 := by omega
      have hqp : (0 : Int) < (nx : Int) + 1 := by omega
      unfold maxLen at hx2
      clear hx0 hgf hbb hnx
      go_quiet ((go_at_call 74; exact quiet_bdrew (HG.out _)))
      go_wp2_with (fail)
      go_meet
      exact ⟨rfl, _, rfl⟩
  case rest =>
  obtain ⟨rfl, nq, rfl⟩ := hcut
  clear k0 k8 c0 hbox
  go_upto_region 6 with (go_at_call 55; (with_reducible refine (HSE.out _ (Below.of_drews w1 nq)).mono ?_); rintro e w2 ⟨rfl, xa2, xc2, hG2, hfr2⟩; have HFR := Lib.hid (HFR1.out nq _ hfr2); have HJ := Lib.hid (hG2.js HK.out); (obtain ⟨b8, b9, b10, b11, b12, b13, b14, b15⟩ := boxT hG2.box); have HBX := Lib.hid (row_lt hG2.box); clear hG2 hfr2)
  obtain ⟨ra, rn, rc, ⟨d0, d1, d2, d3, d4, d5, d6, d7⟩, hsit, m0, m1, hf1, hf2, hf3, hf4, hgl, hql, hrl, hgr, hqr, hgq⟩ := HJ.out.read2
  have HSI := Lib.hid hsit
  have HGL := Lib.hid (And.intro hgl (And.intro hql hrl))
  have HD := Lib.hid (show TokX l' (.slice ra rn rc) g (k * 8) w2 from ⟨d0, d1, d2, d3, d4, d5, d6, d7⟩)
  have HM := Lib.hid (And.intro m0 m1)
  unfold maxLen at hf2 hf4
  have hbl := HBX.out
  clear hsit
  have HSS : Hid (∀ X : World, Below w2.heap.size w2 X → X.cell? ⟨r, 0, none⟩ = some (.slice (some ⟨g, 0, none⟩) (k + 1) tc) ∧ X.cell? ⟨g, k * 8, none⟩ = some (.int .i64 l'.k) ∧ X.cell? ⟨g, k * 8 + 1, none⟩ = some (.string l'.x) ∧ X.cell? ⟨g, k * 8 + 2, none⟩ = some (.bool l'.sp) ∧ X.cell? ⟨g, k * 8 + 3, none⟩ = some (.string l'.g) ∧ X.cell? ⟨g, k * 8 + 4, none⟩ = some (.int .i64 l'.f) ∧ X.cell? ⟨g, k * 8 + 5, none⟩ = some (.int .i64 l'.t) ∧ X.cell? ⟨g, k * 8 + 6, none⟩ = some (.bool l'.d) ∧ X.cell? ⟨g, k * 8 + 7, none⟩ = some (.slice ra rn rc) ∧ X.cell? ⟨b0, 0, none⟩ = some (.int .i64 t.k) ∧ X.cell? ⟨b0, 1, none⟩ = some (.string t.x) ∧ X.cell? ⟨b0, 2, none⟩ = some (.bool t.sp) ∧ X.cell? ⟨b0, 3, none⟩ = some (.string t.g) ∧ X.cell? ⟨b0, 4, none⟩ = some (.int .i64 t.f) ∧ X.cell? ⟨b0, 5, none⟩ = some (.int .i64 t.t) ∧ X.cell? ⟨b0, 6, none⟩ = some (.bool t.d) ∧ X.cell? ⟨b0, 7, none⟩ = some (.slice sa sn sc)) := Lib.hid (fun X hX => ⟨bcell hX m0 hrl, bcell hX d0 hgl, bcell hX d1 hgl, bcell hX d2 hgl, bcell hX d3 hgl, bcell hX d4 hgl, bcell hX d5 hgl, bcell hX d6 hgl, bcell hX d7 hgl, bcell hX b8 hbl, bcell hX b9 hbl, bcell hX b10 hbl, bcell hX b11 hbl, bcell hX b12 hbl, bcell hX b13 hbl, bcell hX b14 hbl, bcell hX b15 hbl⟩)
  have n1 : r ≠ w2.heap.size := by omega
  have n2 : g ≠ w2.heap.size := by omega
  have n3 : b0 ≠ w2.heap.size := by omega
  have n4 : w2.heap.size ≠ r := by omega
  have n5 : w2.heap.size ≠ g := by omega
  have n6 : w2.heap.size ≠ b0 := by omega
  go_cut [6, 7] (fun v6 v7 X => Mid6 V r (setL S) k l' u g tc q fc da dc v6 v7 X ∧ Fr w X)
  case first =>
    go_region_held3 (fun w' => w'.cell? ⟨r, 0, none⟩ = some (.slice (some ⟨g, 0, none⟩) (k + 1) tc) ∧ w'.cell? ⟨g, k * 8, none⟩ = some (.int .i64 l'.k) ∧ w'.cell? ⟨g, k * 8 + 1, none⟩ = some (.string l'.x) ∧ w'.cell? ⟨g, k * 8 + 2, none⟩ = some (.bool l'.sp) ∧ w'.cell? ⟨g, k * 8 + 3, none⟩ = some (.string l'.g) ∧ w'.cell? ⟨g, k * 8 + 4, none⟩ = some (.int .i64 l'.f) ∧ w'.cell? ⟨g, k * 8 + 5, none⟩ = some (.int .i64 l'.t) ∧ w'.cell? ⟨g, k * 8 + 6, none⟩ = some (.bool l'.d) ∧ w'.cell? ⟨g, k * 8 + 7, none⟩ = some (.slice ra rn rc) ∧ w'.cell? ⟨b0, 0, none⟩ = some (.int .i64 t.k) ∧ w'.cell? ⟨b0, 1, none⟩ = some (.string t.x) ∧ w'.cell? ⟨b0, 2, none⟩ = some (.bool t.sp) ∧ w'.cell? ⟨b0, 3, none⟩ = some (.string t.g) ∧ w'.cell? ⟨b0, 4, none⟩ = some (.int .i64 t.f) ∧ w'.cell? ⟨b0, 5, none⟩ = some (.int .i64 t.t) ∧ w'.cell? ⟨b0, 6, none⟩ = some (.bool t.d) ∧ w'.cell? ⟨b0, 7, none⟩ = some (.slice sa sn sc)) (first | go_keep)
      (first
        | (go_at_call 21; (with_reducible refine (HQ.out _ _ _ _ _ _ _).mono ?_); rintro e w3 ⟨rfl, hb3⟩; (obtain ⟨zh, z0, z1, z2, z3, z4, z5, z6, z7, zf, zl, zb⟩ := made8d hb3); have HZH := Lib.hid zh; have HB3 := Lib.hid zb; (obtain ⟨p0, p1, p2, p3, p4, p5, p6, p7, p8, p9, p10, p11, p12, p13, p14, p15, p16⟩ := HSS.out _ HB3.out); clear hb3 zh zb)
        | (go_at_call 21; (with_reducible refine (HQ.out _ _ _ _ _ _ _).mono ?_); rintro e w3 ⟨rfl, hb3⟩; have HB3 := Lib.hid (below_up (Below.refl _ _).drew hb3); have g1 : r < w3.heap.size := Nat.lt_of_lt_of_le hrl HB3.out.size; have g2 : g < w3.heap.size := Nat.lt_of_lt_of_le hgl HB3.out.size; have g3 : b0 < w3.heap.size := Nat.lt_of_lt_of_le hbl HB3.out.size; have n7 : r ≠ w3.heap.size := (by omega); have n8 : g ≠ w3.heap.size := (by omega); have n9 : b0 ≠ w3.heap.size := (by omega); have n10 : w3.heap.size ≠ r := (by omega); have n11 : w3.heap.size ≠ g := (by omega); have n12 : w3.heap.size ≠ b0 := (by omega); (obtain ⟨p0, p1, p2, p3, p4, p5, p6, p7, p8, p9, p10, p11, p12, p13, p14, p15, p16⟩ := HSS.out _ HB3.out); clear hb3))
    all_goals
      clear d0 d1 d2 d3 d4 d5 d6 d7 b8 b9 b10 b11 b12 b13 b14 b15 m0 m1 p0 p1 p2 p3 p4 p5 p6 p7 p8 p9 p10 p11 p12 p13 p14 p15 p16
      first
        | (obtain ⟨X, hX, -, hB, h7, -, -⟩ := st8_done (W := w2) HZH.out HB3.out (Nat.le_refl _) (.int .i64 u.k) (.string u.x) (.bool u.sp) (.string u.g) (.int .i64 u.f) (.int .i64 u.t) (.bool u.d) (.slice ra rn rc)
           rw [hX]
           have HMM : Hid ((Mid6 V r (setL S) k l' u g tc q fc da dc (.pointer (some ⟨w2.heap.size, 0, none⟩)) (.bool true) X) ∧ Fr w X) := Lib.hid ⟨⟨w2.heap.size, _, _, ra, rn, rc, rfl, rfl, HJ.out.over hB, h7, HSI.out.over (StillB.of_below hB), n2, by have := HGL.out.2.1; omega⟩, HFR.out.trans (Fr.below hB)⟩)
        | (have hB := HB3.out.alloc HB3.out.size (.cells #[.int .i64 u.k, .string u.x, .bool u.sp, .string u.g, .int .i64 u.f, .int .i64 u.t, .bool u.d, .slice ra rn rc] 26)
           have HMM : Hid ((Mid6 V r (setL S) k l' u g tc q fc da dc (.pointer (some ⟨w3.heap.size, 0, none⟩)) (.bool true) (w3.alloc (.cells #[.int .i64 u.k, .string u.x, .bool u.sp, .string u.g, .int .i64 u.f, .int .i64 u.t, .bool u.d, .slice ra rn rc] 26))) ∧ Fr w (w3.alloc (.cells #[.int .i64 u.k, .string u.x, .bool u.sp, .string u.g, .int .i64 u.f, .int .i64 u.t, .bool u.d, .slice ra rn rc] 26))) := Lib.hid ⟨⟨w3.heap.size, _, _, ra, rn, rc, rfl, rfl, HJ.out.over hB, heap_alloc_new w3 _, HSI.out.over (StillB.of_below hB), n8, by have := HGL.out.2.1; have := HB3.out.size; omega⟩, HFR.out.trans (Fr.below hB)⟩)
      go_wp2_with (fail)
      go_meet
      exact HMM.out
  case rest =>
  obtain ⟨⟨mb, xa9, xc9, sa9, sn9, sc9, rfl, rfl, hJX, hMB, hSX, hmn1, hmn2⟩, hfrX⟩ := hcut
  have HFR := Lib.hid hfrX
  clear hfrX
  have HJX := Lib.hid hJX
  have HMB := Lib.hid hMB
  have HMN := Lib.hid (And.intro hmn1 hmn2)
  have HSI9 := Lib.hid hSX
  obtain ⟨X, hXc⟩ : ∃ X, wc = X := ⟨_, rfl⟩
  rw [hXc] at HJX HMB HSI9 HFR ⊢
  clear hXc hJX hMB hSX hmn1 hmn2 d0 d1 d2 d3 d4 d5 d6 d7 b8 b9 b10 b11 b12 b13 b14 b15 m0 m1
  obtain ⟨m0, m1, -⟩ := HJX.out.row.cells
  rw [HJX.out.len] at m0
  rw [show (setL S).F.length = k + 1 from HJX.out.row.same.trans HJX.out.len] at m1
  go_wp2
  have hJD := HJX.out.over (Below.refl _ _).drew
  obtain ⟨Y0, hwd⟩ : ∃ Y, X.drew = Y := ⟨_, rfl⟩
  rw [hwd] at hJD
  have HJD := Lib.hid hJD
  have HRW0 := Lib.hid hJD.row
  have HFR : Hid (Fr w Y0) := Lib.hid (by rw [← hwd]; exact HFR.out)
  have HLEN := Lib.hid hJD.len
  have HLF := Lib.hid (hJD.row.same.trans hJD.len)
  have HML0 : Hid (mb < Y0.heap.size) := Lib.hid (by rw [← hwd]; exact row_lt HMB.out)
  have HSW : Rm9 r mb X.heap[r]? X.heap[mb]? Y0 := by rw [← hwd]; exact ⟨rfl, rfl⟩
  have HSY : Hid (∀ W : World, StillB (Deep V r) Y0 W → HeldIn (Deep V r) W (SitsA l'.ss (.slice sa9 sn9 sc9))) := Lib.hid (fun W hW => by
    have h1 := HSI9.out.over (StillB.of_below (Below.refl _ _).drew)
    rw [hwd] at h1
    exact h1.over hW)
  have HMC := Lib.hid (cells8 HMB.out)
  have HR0 := Lib.hid m0
  have HR1 := Lib.hid m1
  have HNE : Hid ((setL S).T.set k u ≠ []) := Lib.hid (fun e => by
    have := congrArg List.length e
    rw [List.length_set, HLEN.out] at this
    simp at this)
  have hmg : g ≠ mb := HMN.out.1
  have HGM := Lib.hid hmg
  have HQM := Lib.hid HMN.out.2
  clear hJD m0 m1 hmg
  refine region_anyT (S := Rm9 r mb X.heap[r]? X.heap[mb]?) 21 (by kernel_rfl) ?_
  rw [hwd]
  obtain ⟨UV, hUV⟩ : ∃ UV : Value, .agg #[.int .i64 u.k, .string u.x, .bool u.sp, .string u.g, .int .i64 u.f, .int .i64 u.t, .bool u.d, .slice sa9 sn9 sc9] = UV := ⟨_, rfl⟩
  have HUV := Lib.hid hUV
  clear hUV
  refine anyT_takeD 0 [1, 2, 3, 15, 16, 17, 18, 19, 20, 21] 70 (v := ?_) rfl rfl (by kernel_rfl) (fun _ _ _ h => h) (Or.inl ⟨by kernel_rfl, ?_⟩) HSW ?_
  rotate_left
  · (intro w hSw; clear hSw; go_simp; (try with_reducible rfl))
  (try simp only [Act.put]); (try simp only [List.setIfInBounds_toArray]); (try simp only [List.set_cons_succ]); (try simp only [List.set_cons_zero])
  refine anyT_takeD 1 [2, 3, 15, 16, 17, 18, 19, 20, 21] 71 (v := ?_) rfl rfl (by kernel_rfl) (fun _ _ _ h => h) (Or.inl ⟨by kernel_rfl, ?_⟩) HSW ?_
  rotate_left
  · (intro w hSw; clear hSw; go_simp; (try with_reducible rfl))
  (try simp only [Act.put]); (try simp only [List.setIfInBounds_toArray]); (try simp only [List.set_cons_succ]); (try simp only [List.set_cons_zero])
  refine anyT_takeD 2 [3, 15, 16, 17, 18, 19, 20, 21] 72 (v := ?_) rfl rfl (by kernel_rfl) (fun _ _ _ h => h) (Or.inl ⟨by kernel_rfl, ?_⟩) HSW ?_
  rotate_left
  · (intro w hSw; clear hSw; go_simp; (try with_reducible rfl))
  (try simp only [Act.put]); (try simp only [List.setIfInBounds_toArray]); (try simp only [List.set_cons_succ]); (try simp only [List.set_cons_zero])
  refine anyT_takeD 3 [15, 16, 17, 18, 19, 20, 21] 73 (v := ?_) rfl rfl (by kernel_rfl) (fun _ _ _ h => h) (Or.inl ⟨by kernel_rfl, ?_⟩) HSW ?_
  rotate_left
  · (intro w hSw; have hop := Rm9.open hSw; have o0 := (hop 0).1.trans HR0.out; have o1 := (hop 1).1.trans HR1.out; (obtain ⟨x0, x1, x2, x3, x4, x5, x6, x7⟩ := HMC.out); have q0 := (hop 0).2.trans x0; have q1 := (hop 1).2.trans x1; have q2 := (hop 2).2.trans x2; have q3 := (hop 3).2.trans x3; have q4 := (hop 4).2.trans x4; have q5 := (hop 5).2.trans x5; have q6 := (hop 6).2.trans x6; have q7 := (hop 7).2.trans x7; clear hop x0 x1 x2 x3 x4 x5 x6 x7; go_simp; (try with_reducible rfl))
  (try simp only [Act.put]); (try simp only [List.setIfInBounds_toArray]); (try simp only [List.set_cons_succ]); (try simp only [List.set_cons_zero])
  refine anyT_takeD 4 [15, 16, 17, 18, 19, 20, 21] 74 (v := ?_) rfl rfl (by kernel_rfl) (fun _ _ _ h => h) (Or.inl ⟨by kernel_rfl, ?_⟩) HSW ?_
  rotate_left
  · (intro w hSw; clear hSw; go_simp; (try with_reducible rfl))
  (try simp only [Act.put]); (try simp only [List.setIfInBounds_toArray]); (try simp only [List.set_cons_succ]); (try simp only [List.set_cons_zero])
  refine anyT_takeD 5 [6, 7, 8, 15, 16, 17, 18, 19, 20, 21] 75 (v := ?_) rfl rfl (by kernel_rfl) (fun _ _ _ h => h) (Or.inl ⟨by kernel_rfl, ?_⟩) HSW ?_
  rotate_left
  · (intro w hSw; clear hSw; go_simp; (try with_reducible rfl))
  (try simp only [Act.put]); (try simp only [List.setIfInBounds_toArray]); (try simp only [List.set_cons_succ]); (try simp only [List.set_cons_zero])
  refine anyT_takeD 6 [7, 8, 15, 16, 17, 18, 19, 20, 21] 76 (v := ?_) rfl rfl (by kernel_rfl) (fun _ _ _ h => h) (Or.inl ⟨by kernel_rfl, ?_⟩) HSW ?_
  rotate_left
  · (intro w hSw; clear hSw; go_simp; (try with_reducible rfl))
  (try simp only [Act.put]); (try simp only [List.setIfInBounds_toArray]); (try simp only [List.set_cons_succ]); (try simp only [List.set_cons_zero])
  refine anyT_takeD 7 [8, 15, 16, 17, 18, 19, 20, 21] 77 (v := ?_) rfl rfl (by kernel_rfl) (fun _ _ _ h => h) (Or.inl ⟨by kernel_rfl, ?_⟩) HSW ?_
  rotate_left
  · (intro w hSw; clear hSw; go_simp; (try with_reducible rfl))
  (try simp only [Act.put]); (try simp only [List.setIfInBounds_toArray]); (try simp only [List.set_cons_succ]); (try simp only [List.set_cons_zero])
  refine anyT_takeD 8 [15, 16, 17, 18, 19, 20, 21] 78 (v := ?_) rfl rfl (by kernel_rfl) (fun _ _ _ h => h) (Or.inl ⟨by kernel_rfl, ?_⟩) HSW ?_
  rotate_left
  · (intro w hSw; have hop := Rm9.open hSw; have o0 := (hop 0).1.trans HR0.out; have o1 := (hop 1).1.trans HR1.out; (obtain ⟨x0, x1, x2, x3, x4, x5, x6, x7⟩ := HMC.out); have q0 := (hop 0).2.trans x0; have q1 := (hop 1).2.trans x1; have q2 := (hop 2).2.trans x2; have q3 := (hop 3).2.trans x3; have q4 := (hop 4).2.trans x4; have q5 := (hop 5).2.trans x5; have q6 := (hop 6).2.trans x6; have q7 := (hop 7).2.trans x7; clear hop x0 x1 x2 x3 x4 x5 x6 x7; go_simp; (try with_reducible rfl))
  (try simp only [Act.put]); (try simp only [List.setIfInBounds_toArray]); (try simp only [List.set_cons_succ]); (try simp only [List.set_cons_zero])
  refine anyT_takeD 9 [17, 18, 19, 20, 21] 79 (v := ?_) rfl rfl (by kernel_rfl) (fun _ _ _ h => h) (Or.inl ⟨by kernel_rfl, ?_⟩) HSW ?_
  rotate_left
  · (intro w hSw; clear hSw; go_simp; (try with_reducible rfl))
  (try simp only [Act.put]); (try simp only [List.setIfInBounds_toArray]); (try simp only [List.set_cons_succ]); (try simp only [List.set_cons_zero])
  refine anyT_takeD 10 [19, 20, 21] 80 (v := ?_) rfl rfl (by kernel_rfl) (fun _ _ _ h => h) (Or.inl ⟨by kernel_rfl, ?_⟩) HSW ?_
  rotate_left
  · (intro w hSw; clear hSw; go_simp; (try with_reducible rfl))
  (try simp only [Act.put]); (try simp only [List.setIfInBounds_toArray]); (try simp only [List.set_cons_succ]); (try simp only [List.set_cons_zero])
  refine anyT_takeD 12 [13, 14, 19, 20, 21] 82 (v := ?_) rfl rfl (by kernel_rfl) (fun _ _ _ h => h) (Or.inl ⟨by kernel_rfl, ?_⟩) HSW ?_
  rotate_left
  · (intro w hSw; clear hSw; go_simp; (try with_reducible rfl))
  (try simp only [Act.put]); (try simp only [List.setIfInBounds_toArray]); (try simp only [List.set_cons_succ]); (try simp only [List.set_cons_zero])
  refine anyT_takeD 13 [14, 19, 20, 21] 83 (v := ?_) rfl rfl (by kernel_rfl) (fun _ _ _ h => h) (Or.inl ⟨by kernel_rfl, ?_⟩) HSW ?_
  rotate_left
  · (intro w hSw; have hop := Rm9.open hSw; have o0 := (hop 0).1.trans HR0.out; have o1 := (hop 1).1.trans HR1.out; (obtain ⟨x0, x1, x2, x3, x4, x5, x6, x7⟩ := HMC.out); have q0 := (hop 0).2.trans x0; have q1 := (hop 1).2.trans x1; have q2 := (hop 2).2.trans x2; have q3 := (hop 3).2.trans x3; have q4 := (hop 4).2.trans x4; have q5 := (hop 5).2.trans x5; have q6 := (hop 6).2.trans x6; have q7 := (hop 7).2.trans x7; clear hop x0 x1 x2 x3 x4 x5 x6 x7; go_simp; (try with_reducible rfl))
  (try simp only [Act.put]); (try simp only [List.setIfInBounds_toArray]); (try simp only [List.set_cons_succ]); (try simp only [List.set_cons_zero])
  refine anyT_takeD 11 [15, 16, 17, 18, 19, 20, 21] 81 (v := UV) rfl rfl (by kernel_rfl) (fun _ _ _ h => h) (Or.inl ⟨by kernel_rfl, ?_⟩) HSW ?_
  · (intro w hSw; have hop := Rm9.open hSw; have o0 := (hop 0).1.trans HR0.out; have o1 := (hop 1).1.trans HR1.out; (obtain ⟨x0, x1, x2, x3, x4, x5, x6, x7⟩ := HMC.out); have q0 := (hop 0).2.trans x0; have q1 := (hop 1).2.trans x1; have q2 := (hop 2).2.trans x2; have q3 := (hop 3).2.trans x3; have q4 := (hop 4).2.trans x4; have q5 := (hop 5).2.trans x5; have q6 := (hop 6).2.trans x6; have q7 := (hop 7).2.trans x7; clear hop x0 x1 x2 x3 x4 x5 x6 x7; rw [← HUV.out]; go_simp; (try with_reducible rfl))
  (try simp only [Act.put]); (try simp only [List.setIfInBounds_toArray]); (try simp only [List.set_cons_succ]); (try simp only [List.set_cons_zero])
  refine anyT_takeD 15 [16, 17, 18, 19, 20, 21] 85 (v := ?_) rfl rfl (by kernel_rfl) (fun _ _ _ h => h) (Or.inl ⟨by kernel_rfl, ?_⟩) HSW ?_
  rotate_left
  · (intro w hSw; clear hSw; go_simp; (try with_reducible rfl))
  (try simp only [Act.put]); (try simp only [List.setIfInBounds_toArray]); (try simp only [List.set_cons_succ]); (try simp only [List.set_cons_zero])
  refine anyT_two 14 16 (by kernel_rfl) rfl rfl ?_ ?_
  · intro K hK
    obtain ⟨Y1, yc1, hcv, hbz, hby⟩ := conv_at HRW0.out u.x HUZ.out
    go_simp
    have HRW1 := Lib.hid (HRW0.out.over hby)
    have HBZ1 := Lib.hid hbz
    have HSW := HSW.below hby (row_lt HRW0.out.obj) (HML0.out)
    have HML1 : Hid (mb < Y1.heap.size) := Lib.hid (Nat.lt_of_lt_of_le HML0.out hby.size)
    have HST1 := Lib.hid (StillB.of_below (P := Deep V r) hby)
    have HFR := Lib.hid (HFR.out.trans (Fr.below hby))
    clear hcv hbz hby
    refine hK.out _ _ (fun _ => HSW) ?_
    clear hK K
    (try simp only [Act.put]); (try simp only [List.setIfInBounds_toArray]); (try simp only [List.set_cons_succ]); (try simp only [List.set_cons_zero])
    refine anyT_step 16 (by kernel_rfl) rfl (fun K hK => ?_)
    obtain ⟨ya, yn, yc, ⟨e0, e1, e2, e3, e4, e5, e6, e7⟩, -⟩ := tok_cells HRW1.out (k := k) (by rw [HLEN.out]; omega)
    have ef := fun j => HRW1.out.toks.free j
    rw [← HUV.out]
    go_simp
    obtain ⟨hr9, hg9⟩ := HRW1.out.tok9 (k := k) (u := u) (sa := sa9) (sn := sn9) (sc := sc9) (by rw [HLEN.out]; omega) (by rw [HUS.out]; exact HSY.out _ HST1.out)
    have HSW := HSW.grown hg9 (row_lt HRW1.out.obj) HML1.out hgr HGM.out
    obtain ⟨Y2, hY⟩ : ∃ Y, (((((((Y1.setCell ⟨g, k * 8, none⟩ (.int .i64 u.k)).setCell ⟨g, k * 8 + 1, none⟩ (.string u.x)).setCell ⟨g, k * 8 + 2, none⟩ (.bool u.sp)).setCell ⟨g, k * 8 + 3, none⟩ (.string u.g)).setCell ⟨g, k * 8 + 4, none⟩ (.int .i64 u.f)).setCell ⟨g, k * 8 + 5, none⟩ (.int .i64 u.t)).setCell ⟨g, k * 8 + 6, none⟩ (.bool u.d)).setCell ⟨g, k * 8 + 7, none⟩ (.slice sa9 sn9 sc9) = Y := ⟨_, rfl⟩
    rw [hY] at hr9 hg9 HSW ⊢
    have HRW2 := Lib.hid hr9
    have HML2 : Hid (mb < Y2.heap.size) := Lib.hid (Nat.lt_of_lt_of_le HML1.out hg9.size)
    have HBZ2 := Lib.hid (bz_grown HBZ1.out hg9 ((HRW1.out.toks.kind g rfl).2) (by decide))
    have HFR := Lib.hid (HFR.out.trans (Fr.grown hg9 ((HRW1.out.toks.kind g rfl).2) (by decide)))
    clear hr9 hg9 hY e0 e1 e2 e3 e4 e5 e6 e7 ef
    refine hK.out _ _ (fun _ => HSW) ?_
    clear hK K
    rw [HUV.out]
    (try simp only [Act.put]); (try simp only [List.setIfInBounds_toArray]); (try simp only [List.set_cons_succ]); (try simp only [List.set_cons_zero])
    refine anyT_takeD 17 [18, 19, 20, 21] 86 (v := ?_) rfl rfl (by kernel_rfl) (fun _ _ _ h => h) (Or.inl ⟨by kernel_rfl, ?_⟩) HSW ?_
    rotate_left
    · (intro w hSw; clear hSw; go_simp; (try with_reducible rfl))
    (try simp only [Act.put]); (try simp only [List.setIfInBounds_toArray]); (try simp only [List.set_cons_succ]); (try simp only [List.set_cons_zero])
    refine anyT_step 18 (by kernel_rfl) rfl (fun K hK => ?_)
    obtain ⟨qv, qc⟩ := from_cell HRW2.out (k := k) (by show k < (setL S).F.length; rw [HLF.out]; omega)
    have qf := fun j => own_freeX HRW2.out.frm j
    go_simp
    have hr9 := HRW2.out.fromput k (-1)
    have hg9 := grown_setS Y2 q k (.int .i64 (-1))
    have HSW := HSW.grown hg9 (row_lt HRW2.out.obj) HML2.out hqr HQM.out
    obtain ⟨Y3, hY⟩ : ∃ Y, Y2.setCell ⟨q, k, none⟩ (.int .i64 (-1)) = Y := ⟨_, rfl⟩
    rw [hY] at hr9 hg9 HSW ⊢
    have HRW3 := Lib.hid hr9
    have HML3 : Hid (mb < Y3.heap.size) := Lib.hid (Nat.lt_of_lt_of_le HML2.out hg9.size)
    have HBZ3 := Lib.hid (bz_grown HBZ2.out hg9 ((row_kind HRW2.out.frm q rfl).2) (by decide))
    have HFR := Lib.hid (HFR.out.trans (Fr.grown hg9 ((row_kind HRW2.out.frm q rfl).2) (by decide)))
    clear hr9 hg9 hY qc qf
    refine hK.out _ _ (fun _ => HSW) ?_
    clear hK K
    (try simp only [Act.put]); (try simp only [List.setIfInBounds_toArray]); (try simp only [List.set_cons_succ]); (try simp only [List.set_cons_zero])
    refine anyT_takeD 19 [20, 21] 87 (v := ?_) rfl rfl (by kernel_rfl) (fun _ _ _ h => h) (Or.inl ⟨by kernel_rfl, ?_⟩) HSW ?_
    rotate_left
    · (intro w hSw; clear hSw; go_simp; (try with_reducible rfl))
    (try simp only [Act.put]); (try simp only [List.setIfInBounds_toArray]); (try simp only [List.set_cons_succ]); (try simp only [List.set_cons_zero])
    refine anyT_takeD 20 [21] 88 (v := ?_) rfl rfl (by kernel_rfl) (fun _ _ _ h => h) (Or.inl ⟨by kernel_rfl, ?_⟩) HSW ?_
    rotate_left
    · (intro w hSw; clear hSw; go_simp; (try with_reducible rfl))
    (try simp only [Act.put]); (try simp only [List.setIfInBounds_toArray]); (try simp only [List.set_cons_succ]); (try simp only [List.set_cons_zero])
    refine anyT_step 21 (by kernel_rfl) rfl (fun K hK => ?_)
    obtain ⟨-, -, -, -, -, -, -, -, r8, rf⟩ := HRW3.out.cells
    go_simp
    have HFIN := Lib.hid (HRW3.out.text9 (fun e => HNE.out e) HBZ3.out (by rw [len_byte]))
    clear r8 rf
    refine hK.out _ _ (fun h => absurd rfl h) ?_
    clear hK K
    (try simp only [Act.put]); (try simp only [List.setIfInBounds_toArray]); (try simp only [List.set_cons_succ]); (try simp only [List.set_cons_zero])
    refine anyT_done (by kernel_rfl) ?_ _
    clear HSW
    go_wp2
    go_ret
    exact ⟨rfl, _, _, _, _, _, _, _, _, HFIN.out, HFR.out.trans (Fr.grown (grown_setS _ _ _ _) (⟨_, _, HRW3.out.obj⟩ : KindAt _ r 79) (by decide))⟩
  · intro K hK
    obtain ⟨ya, yn, yc, ⟨e0, e1, e2, e3, e4, e5, e6, e7⟩, -⟩ := tok_cells HRW0.out (k := k) (by rw [HLEN.out]; omega)
    have ef := fun j => HRW0.out.toks.free j
    rw [← HUV.out]
    go_simp
    obtain ⟨hr9, hg9⟩ := HRW0.out.tok9 (k := k) (u := u) (sa := sa9) (sn := sn9) (sc := sc9) (by rw [HLEN.out]; omega) (by rw [HUS.out]; exact HSY.out _ (StillB.refl _ _))
    have HSW := HSW.grown hg9 (row_lt HRW0.out.obj) HML0.out hgr HGM.out
    obtain ⟨Y1, hY⟩ : ∃ Y, (((((((Y0.setCell ⟨g, k * 8, none⟩ (.int .i64 u.k)).setCell ⟨g, k * 8 + 1, none⟩ (.string u.x)).setCell ⟨g, k * 8 + 2, none⟩ (.bool u.sp)).setCell ⟨g, k * 8 + 3, none⟩ (.string u.g)).setCell ⟨g, k * 8 + 4, none⟩ (.int .i64 u.f)).setCell ⟨g, k * 8 + 5, none⟩ (.int .i64 u.t)).setCell ⟨g, k * 8 + 6, none⟩ (.bool u.d)).setCell ⟨g, k * 8 + 7, none⟩ (.slice sa9 sn9 sc9) = Y := ⟨_, rfl⟩
    rw [hY] at hr9 hg9 HSW ⊢
    have HRW1 := Lib.hid hr9
    have HML1 : Hid (mb < Y1.heap.size) := Lib.hid (Nat.lt_of_lt_of_le HML0.out hg9.size)
    
    have HFR := Lib.hid (HFR.out.trans (Fr.grown hg9 ((HRW0.out.toks.kind g rfl).2) (by decide)))
    clear hr9 hg9 hY e0 e1 e2 e3 e4 e5 e6 e7 ef
    refine hK.out _ _ (fun _ => HSW) ?_
    clear hK K
    rw [HUV.out]
    (try simp only [Act.put]); (try simp only [List.setIfInBounds_toArray]); (try simp only [List.set_cons_succ]); (try simp only [List.set_cons_zero])
    refine anyT_takeD 17 [18, 19, 20, 21] 86 (v := ?_) rfl rfl (by kernel_rfl) (fun _ _ _ h => h) (Or.inl ⟨by kernel_rfl, ?_⟩) HSW ?_
    rotate_left
    · (intro w hSw; clear hSw; go_simp; (try with_reducible rfl))
    (try simp only [Act.put]); (try simp only [List.setIfInBounds_toArray]); (try simp only [List.set_cons_succ]); (try simp only [List.set_cons_zero])
    refine anyT_two 14 18 (by kernel_rfl) rfl rfl ?_ ?_
    · intro K hK
      obtain ⟨Y2, yc2, hcv, hbz, hby⟩ := conv_at HRW1.out u.x HUZ.out
      go_simp
      have HRW2 := Lib.hid (HRW1.out.over hby)
      have HBZ2 := Lib.hid hbz
      have HSW := HSW.below hby (row_lt HRW1.out.obj) (HML1.out)
      have HML2 : Hid (mb < Y2.heap.size) := Lib.hid (Nat.lt_of_lt_of_le HML1.out hby.size)
      have HFR := Lib.hid (HFR.out.trans (Fr.below hby))
      clear hcv hbz hby
      refine hK.out _ _ (fun _ => HSW) ?_
      clear hK K
      (try simp only [Act.put]); (try simp only [List.setIfInBounds_toArray]); (try simp only [List.set_cons_succ]); (try simp only [List.set_cons_zero])
      refine anyT_step 18 (by kernel_rfl) rfl (fun K hK => ?_)
      obtain ⟨qv, qc⟩ := from_cell HRW2.out (k := k) (by show k < (setL S).F.length; rw [HLF.out]; omega)
      have qf := fun j => own_freeX HRW2.out.frm j
      go_simp
      have hr9 := HRW2.out.fromput k (-1)
      have hg9 := grown_setS Y2 q k (.int .i64 (-1))
      have HSW := HSW.grown hg9 (row_lt HRW2.out.obj) HML2.out hqr HQM.out
      obtain ⟨Y3, hY⟩ : ∃ Y, Y2.setCell ⟨q, k, none⟩ (.int .i64 (-1)) = Y := ⟨_, rfl⟩
      rw [hY] at hr9 hg9 HSW ⊢
      have HRW3 := Lib.hid hr9
      have HML3 : Hid (mb < Y3.heap.size) := Lib.hid (Nat.lt_of_lt_of_le HML2.out hg9.size)
      have HBZ3 := Lib.hid (bz_grown HBZ2.out hg9 ((row_kind HRW2.out.frm q rfl).2) (by decide))
      have HFR := Lib.hid (HFR.out.trans (Fr.grown hg9 ((row_kind HRW2.out.frm q rfl).2) (by decide)))
      clear hr9 hg9 hY qc qf
      refine hK.out _ _ (fun _ => HSW) ?_
      clear hK K
      (try simp only [Act.put]); (try simp only [List.setIfInBounds_toArray]); (try simp only [List.set_cons_succ]); (try simp only [List.set_cons_zero])
      refine anyT_takeD 19 [20, 21] 87 (v := ?_) rfl rfl (by kernel_rfl) (fun _ _ _ h => h) (Or.inl ⟨by kernel_rfl, ?_⟩) HSW ?_
      rotate_left
      · (intro w hSw; clear hSw; go_simp; (try with_reducible rfl))
      (try simp only [Act.put]); (try simp only [List.setIfInBounds_toArray]); (try simp only [List.set_cons_succ]); (try simp only [List.set_cons_zero])
      refine anyT_takeD 20 [21] 88 (v := ?_) rfl rfl (by kernel_rfl) (fun _ _ _ h => h) (Or.inl ⟨by kernel_rfl, ?_⟩) HSW ?_
      rotate_left
      · (intro w hSw; clear hSw; go_simp; (try with_reducible rfl))
      (try simp only [Act.put]); (try simp only [List.setIfInBounds_toArray]); (try simp only [List.set_cons_succ]); (try simp only [List.set_cons_zero])
      refine anyT_step 21 (by kernel_rfl) rfl (fun K hK => ?_)
      obtain ⟨-, -, -, -, -, -, -, -, r8, rf⟩ := HRW3.out.cells
      go_simp
      have HFIN := Lib.hid (HRW3.out.text9 (fun e => HNE.out e) HBZ3.out (by rw [len_byte]))
      clear r8 rf
      refine hK.out _ _ (fun h => absurd rfl h) ?_
      clear hK K
      (try simp only [Act.put]); (try simp only [List.setIfInBounds_toArray]); (try simp only [List.set_cons_succ]); (try simp only [List.set_cons_zero])
      refine anyT_done (by kernel_rfl) ?_ _
      clear HSW
      go_wp2
      go_ret
      exact ⟨rfl, _, _, _, _, _, _, _, _, HFIN.out, HFR.out.trans (Fr.grown (grown_setS _ _ _ _) (⟨_, _, HRW3.out.obj⟩ : KindAt _ r 79) (by decide))⟩
    · intro K hK
      obtain ⟨qv, qc⟩ := from_cell HRW1.out (k := k) (by show k < (setL S).F.length; rw [HLF.out]; omega)
      have qf := fun j => own_freeX HRW1.out.frm j
      go_simp
      have hr9 := HRW1.out.fromput k (-1)
      have hg9 := grown_setS Y1 q k (.int .i64 (-1))
      have HSW := HSW.grown hg9 (row_lt HRW1.out.obj) HML1.out hqr HQM.out
      obtain ⟨Y2, hY⟩ : ∃ Y, Y1.setCell ⟨q, k, none⟩ (.int .i64 (-1)) = Y := ⟨_, rfl⟩
      rw [hY] at hr9 hg9 HSW ⊢
      have HRW2 := Lib.hid hr9
      have HML2 : Hid (mb < Y2.heap.size) := Lib.hid (Nat.lt_of_lt_of_le HML1.out hg9.size)
      
      have HFR := Lib.hid (HFR.out.trans (Fr.grown hg9 ((row_kind HRW1.out.frm q rfl).2) (by decide)))
      clear hr9 hg9 hY qc qf
      refine hK.out _ _ (fun _ => HSW) ?_
      clear hK K
      (try simp only [Act.put]); (try simp only [List.setIfInBounds_toArray]); (try simp only [List.set_cons_succ]); (try simp only [List.set_cons_zero])
      refine anyT_step 14 (by kernel_rfl) rfl (fun K hK => ?_)
      obtain ⟨Y3, yc3, hcv, hbz, hby⟩ := conv_at HRW2.out u.x HUZ.out
      go_simp
      have HRW3 := Lib.hid (HRW2.out.over hby)
      have HBZ3 := Lib.hid hbz
      have HSW := HSW.below hby (row_lt HRW2.out.obj) (HML2.out)
      have HML3 : Hid (mb < Y3.heap.size) := Lib.hid (Nat.lt_of_lt_of_le HML2.out hby.size)
      have HFR := Lib.hid (HFR.out.trans (Fr.below hby))
      clear hcv hbz hby
      refine hK.out _ _ (fun _ => HSW) ?_
      clear hK K
      (try simp only [Act.put]); (try simp only [List.setIfInBounds_toArray]); (try simp only [List.set_cons_succ]); (try simp only [List.set_cons_zero])
      refine anyT_takeD 19 [20, 21] 87 (v := ?_) rfl rfl (by kernel_rfl) (fun _ _ _ h => h) (Or.inl ⟨by kernel_rfl, ?_⟩) HSW ?_
      rotate_left
      · (intro w hSw; clear hSw; go_simp; (try with_reducible rfl))
      (try simp only [Act.put]); (try simp only [List.setIfInBounds_toArray]); (try simp only [List.set_cons_succ]); (try simp only [List.set_cons_zero])
      refine anyT_takeD 20 [21] 88 (v := ?_) rfl rfl (by kernel_rfl) (fun _ _ _ h => h) (Or.inl ⟨by kernel_rfl, ?_⟩) HSW ?_
      rotate_left
      · (intro w hSw; clear hSw; go_simp; (try with_reducible rfl))
      (try simp only [Act.put]); (try simp only [List.setIfInBounds_toArray]); (try simp only [List.set_cons_succ]); (try simp only [List.set_cons_zero])
      refine anyT_step 21 (by kernel_rfl) rfl (fun K hK => ?_)
      obtain ⟨-, -, -, -, -, -, -, -, r8, rf⟩ := HRW3.out.cells
      go_simp
      have HFIN := Lib.hid (HRW3.out.text9 (fun e => HNE.out e) HBZ3.out (by rw [len_byte]))
      clear r8 rf
      refine hK.out _ _ (fun h => absurd rfl h) ?_
      clear hK K
      (try simp only [Act.put]); (try simp only [List.setIfInBounds_toArray]); (try simp only [List.set_cons_succ]); (try simp only [List.set_cons_zero])
      refine anyT_done (by kernel_rfl) ?_ _
      clear HSW
      go_wp2
      go_ret
      exact ⟨rfl, _, _, _, _, _, _, _, _, HFIN.out, HFR.out.trans (Fr.grown (grown_setS _ _ _ _) (⟨_, _, HRW3.out.obj⟩ : KindAt _ r 79) (by decide))⟩

end Go.Proofs.Ytobplffailbkbaa
