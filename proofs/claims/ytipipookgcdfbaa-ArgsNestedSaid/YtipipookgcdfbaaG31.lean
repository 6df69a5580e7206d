/-
  Texts of the proof, put together: AgCR, AgStep, AgQuo.
-/
import Derived.Test.YtipipookgcdfbaaG30
import Derived.Deep.RegionHeld3
import Derived.OwnWalk
import Derived.Test.YtipipookgcdfbaaG28

/-
  Rows of tokens, and tokens, that a call puts together side by side.
-/
namespace Go.Proofs.Ytipipookgcdfbaa
open Go.RowKit

theorem Try.infoRowT : (Try.prog.info? 22).map (fun i => (i.zero, i.size, i.bytes)) = some (some (.slice none 0 0), 1, 24) := by kernel_rfl

/-- None of the two rows lies there. -/
def NotHot (al ac : Option Addr) (g : Nat) : Prop := al ≠ some ⟨g, 0, none⟩ ∧ ac ≠ some ⟨g, 0, none⟩
structure CR (W : World) (ls : List (List Xt)) (cs : List Xt) (al : Option Addr) (nl cl : Nat) (ac : Option Addr) (nc cc : Nat) (w : World) : Prop where
  list : ∃ V : List (List Xt × Value), V.map Prod.fst = ls ∧ w.ownsRow W.heap.size 22 1 (.slice al nl cl) nl (V.map Prod.snd) ∧ ∀ p ∈ V, (∀ n c, p.2 = .slice none n c → c = 0) ∧ HeldIn (NotHot al ac) w (ToksX p.1 p.2)
  coms : ∃ P : List (Xt × Value), P.map Prod.fst = cs ∧ w.ownsRow W.heap.size 50 8 (.slice ac nc cc) nc (xcells P) ∧ ∀ p ∈ P, HeldIn (NotHot al ac) w (SitsA p.1.ss p.2)
  bel : Below W.heap.size W w
theorem CR.nil (W : World) : CR W [] [] none 0 0 none 0 0 W := ⟨⟨[], rfl, (up_nil W _ 1).1, fun _ h => by cases h⟩, ⟨[], rfl, (up_nil W _ 8).1, fun _ h => by cases h⟩, Below.refl _ _⟩
theorem CR.over {W : World} {ls : List (List Xt)} {cs : List Xt} {al : Option Addr} {nl cl : Nat} {ac : Option Addr} {nc cc : Nat} {w w' : World} (h : CR W ls cs al nl cl ac nc cc w) (b : Below w.heap.size w w') : CR W ls cs al nl cl ac nc cc w' := by
  obtain ⟨⟨V, hV, ho, hv⟩, ⟨P, hP, hq, hp⟩, hb⟩ := h
  exact ⟨⟨V, hV, own_same ho fun g hg => b.block g (World.ownsRow.lt ho g hg).2, fun p hp => ⟨(hv p hp).1, (hv p hp).2.over (StillB.of_below b)⟩⟩, ⟨P, hP, own_same hq fun g hg => b.block g (World.ownsRow.lt hq g hg).2, fun p hp' => (hp p hp').over (StillB.of_below b)⟩, below_up hb b⟩
/-- What was there ahead of all hangs on neither. -/
theorem CR.old {W : World} {ls : List (List Xt)} {cs : List Xt} {al : Option Addr} {nl cl : Nat} {ac : Option Addr} {nc cc : Nat} {w : World} (h : CR W ls cs al nl cl ac nc cc w) {R : World → Prop} (hR : HeldIn (fun _ => True) W R) : HeldIn (NotHot al ac) w R := by
  obtain ⟨⟨V, hV, ho, hv⟩, ⟨P, hP, hq, hp⟩, hb⟩ := h
  refine (hR.old hb).mono fun g hg _ => ⟨fun e => ?_, fun e => ?_⟩
  · have := (World.ownsRow.lt ho g (by rw [e]; rfl)).1
    omega
  · have := (World.ownsRow.lt hq g (by rw [e]; rfl)).1
    omega
/-- What was made behind them hangs on neither. -/
theorem CR.young {W : World} {ls : List (List Xt)} {cs : List Xt} {al : Option Addr} {nl cl : Nat} {ac : Option Addr} {nc cc : Nat} {w w' : World} (h : CR W ls cs al nl cl ac nc cc w) {R : World → Prop} (hR : HeldIn (fun g => w.heap.size ≤ g) w' R) : HeldIn (NotHot al ac) w' R := by
  obtain ⟨⟨V, hV, ho, hv⟩, ⟨P, hP, hq, hp⟩, hb⟩ := h
  refine hR.mono fun g hg _ => ⟨fun e => ?_, fun e => ?_⟩
  · have := (World.ownsRow.lt ho g (by rw [e]; rfl)).2
    omega
  · have := (World.ownsRow.lt hq g (by rw [e]; rfl)).2
    omega

theorem hot_grown {B : Nat} {w w' : World} {e : TypeId} {size n c : Nat} {a : Option Addr} {xs : List Value} (ho : w.ownsRow B e size (.slice a n c) n xs) (hg : w.grownBy w' (Value.slice a n c).ownBlock) {b : Nat} (hb : (Value.slice a n c).ownBlock = some b ∨ w.heap.size ≤ b) {Q : Nat → Prop} {R : World → Prop} (h : HeldIn (fun g => a ≠ some ⟨g, 0, none⟩ ∧ Q g) w R) :
    HeldIn (fun g => (some ⟨b, 0, none⟩ : Option Addr) ≠ some ⟨g, 0, none⟩ ∧ Q g) w' R := by
  have h1 : HeldIn (fun g => (a ≠ some ⟨g, 0, none⟩ ∧ Q g) ∧ g < w.heap.size) w R := h.mono fun g hg hl => ⟨hg, hl⟩
  have h2 := h1.over (StillB.of_grown hg fun g hgq e => hgq.1.1 (own_addr e.symm ho))
  refine h2.mono fun g hgq _ => ⟨fun e => ?_, hgq.1.2⟩
  simp only [Option.some.injEq, Addr.mk.injEq, and_true] at e
  subst e
  rcases hb with hb | hb
  · exact hgq.1.1 (own_addr hb ho)
  · have := hgq.2
    omega

/-- A row more. -/
theorem CR.pushL {W : World} {ls : List (List Xt)} {cs : List Xt} {al : Option Addr} {nl cl : Nat} {ac : Option Addr} {nc cc : Nat} {w : World} {ty : TypeId} (h : CR W ls cs al nl cl ac nc cc w) {T : List Xt} {b0 : Option Addr} {n0 c0 : Nat} {sv : Value} (hv : HeldIn (NotHot al ac) w (ToksX T (.slice b0 n0 c0))) (hz : b0 = none → c0 = 0) (hs : Src w sv 1 1 [.slice b0 n0 c0]) (hn : nl ≤ 999999) :
    ∃ b n' cap w', (Builtin.append_ #[31, 31] ty #[.slice al nl cl, sv]).run Try.prog w = .ok (.slice (some ⟨b, 0, none⟩) n' cap) w' ∧ n' = nl + 1 ∧ CR W (ls ++ [T]) cs (some ⟨b, 0, none⟩) n' cap ac nc cc w' ∧ ∀ R, HeldIn (NotHot al ac) w R → HeldIn (NotHot (some ⟨b, 0, none⟩) ac) w' R := by
  obtain ⟨⟨V, hV, ho, hvs⟩, ⟨P, hP, hq, hp⟩, hb⟩ := h
  obtain ⟨i0, hi, hz0, hz1, hz2⟩ := info_parts Try.infoRowT
  obtain ⟨b, cap, w', hr, h2, hg, h4⟩ := own_app (ty := ty) Try.underlying31 hi hz0 hz1 hz2 rfl (by decide) (by decide) ho hs (by intro u hu; simp only [List.mem_cons, List.not_mem_nil, or_false] at hu; rw [hu]; rfl) (by omega) (by omega) hb.size
  have tr : ∀ R, HeldIn (NotHot al ac) w R → HeldIn (NotHot (some ⟨b, 0, none⟩) ac) w' R := fun R hR => hot_grown ho hg h4 hR
  refine ⟨b, _, cap, w', hr, rfl, ⟨⟨V ++ [(T, .slice b0 n0 c0)], by rw [List.map_append, hV]; rfl, by rw [List.map_append]; exact h2, fun p hp' => ?_⟩, ⟨P, hP, own_same hq fun g hg' => hg.block g (World.ownsRow.lt hq g hg').2 fun e => own_apart2 ho hq (by decide) g e.symm hg', fun p hp' => tr _ (hp p hp')⟩, hb.grown hg hb.size fun k hk => (World.ownsRow.lt ho k hk).1⟩, tr⟩
  rcases List.mem_append.1 hp' with hp' | hp'
  · exact ⟨(hvs p hp').1, tr _ (hvs p hp').2⟩
  · simp only [List.mem_cons, List.not_mem_nil, or_false] at hp'
    subst hp'
    exact ⟨fun n c e => by simp only [Value.slice.injEq] at e; rw [← e.2.2]; exact hz e.1, tr _ hv⟩

/-- A token more. -/
theorem CR.pushC {W : World} {ls : List (List Xt)} {cs : List Xt} {al : Option Addr} {nl cl : Nat} {ac : Option Addr} {nc cc : Nat} {w : World} {ty : TypeId} (h : CR W ls cs al nl cl ac nc cc w) {t : Xt} {b0 : Option Addr} {n0 c0 : Nat} {sv : Value} (hv : HeldIn (NotHot al ac) w (SitsA t.ss (.slice b0 n0 c0))) (hs : Src w sv 1 8 (xcell (t, .slice b0 n0 c0))) (hn : nc ≤ 999999) :
    ∃ b n' cap w', (Builtin.append_ #[22, 22] ty #[.slice ac nc cc, sv]).run Try.prog w = .ok (.slice (some ⟨b, 0, none⟩) n' cap) w' ∧ n' = nc + 1 ∧ CR W ls (cs ++ [t]) al nl cl (some ⟨b, 0, none⟩) n' cap w' ∧ ∀ R, HeldIn (NotHot al ac) w R → HeldIn (NotHot al (some ⟨b, 0, none⟩)) w' R := by
  obtain ⟨⟨V, hV, ho, hvs⟩, ⟨P, hP, hq, hp⟩, hb⟩ := h
  obtain ⟨i0, hi, hz0, hz1, hz2⟩ := info_parts Try.infoTokC
  obtain ⟨b, cap, w', hr, h2, hg, h4⟩ := own_app (ty := ty) Try.underlying22 hi hz0 hz1 hz2 rfl (by decide) (by decide) hq hs (by
    intro u hu
    simp only [xcell, List.mem_cons, List.not_mem_nil, or_false] at hu
    rcases hu with rfl | rfl | rfl | rfl | rfl | rfl | rfl | rfl <;> rfl) (by omega) (by omega) hb.size
  have sw : ∀ (a c : Option Addr) (x : World) R, HeldIn (NotHot a c) x R → HeldIn (fun g => c ≠ some ⟨g, 0, none⟩ ∧ a ≠ some ⟨g, 0, none⟩) x R := fun a c x R hR => hR.mono fun g hg _ => ⟨hg.2, hg.1⟩
  have tr : ∀ R, HeldIn (NotHot al ac) w R → HeldIn (NotHot al (some ⟨b, 0, none⟩)) w' R := fun R hR => (hot_grown hq hg h4 (Q := fun g => al ≠ some ⟨g, 0, none⟩) (sw _ _ _ _ hR)).mono fun g hg _ => ⟨hg.2, hg.1⟩
  refine ⟨b, _, cap, w', hr, rfl, ⟨⟨V, hV, own_same ho fun g hg' => hg.block g (World.ownsRow.lt ho g hg').2 fun e => own_apart2 hq ho (by decide) g e.symm hg', fun p hp' => ⟨(hvs p hp').1, tr _ (hvs p hp').2⟩⟩, ⟨P ++ [(t, .slice b0 n0 c0)], by rw [List.map_append, hP]; rfl, by rw [show xcells (P ++ [(t, .slice b0 n0 c0)]) = xcells P ++ xcell (t, .slice b0 n0 c0) from by simp [xcells]]; exact h2, fun p hp' => ?_⟩, hb.grown hg hb.size fun k hk => (World.ownsRow.lt hq k hk).1⟩, tr⟩
  rcases List.mem_append.1 hp' with hp' | hp'
  · exact tr _ (hp p hp')
  · simp only [List.mem_cons, List.not_mem_nil, or_false] at hp'
    subst hp'
    exact tr _ hv

/-- As they are read. -/
theorem rows_row {B : Nat} {a : Option Addr} {n c : Nat} {V : List (List Xt × Value)} {w : World} (ho : w.ownsRow B 22 1 (.slice a n c) n (V.map Prod.snd)) (hs : ∀ p ∈ V, (∀ n c, p.2 = .slice none n c → c = 0) ∧ ToksX p.1 p.2 w) : n = V.length ∧ RowsX (V.map Prod.fst) (.slice a n c) w := by
  have hl : n = V.length := by
    have := ho.1
    rw [List.length_map] at this
    omega
  have hT : (V.map Prod.fst).length = V.length := List.length_map _
  have hz := own_nil ho
  obtain ⟨a', cap, hv, h1, h2, h3⟩ := row_form ho
  simp only [Value.slice.injEq, true_and] at hv
  obtain ⟨rfl, rfl⟩ := hv
  refine ⟨hl, a, c, by rw [show n = (V.map Prod.fst).length from by omega], by omega, h2, hz, fun k T ht => ?_⟩
  rw [List.getElem?_map, Option.map_eq_some_iff] at ht
  obtain ⟨p, hp, rfl⟩ := ht
  obtain ⟨g, hga, hlt, hc⟩ := h3 k p.2 (by rw [List.getElem?_map, hp]; rfl)
  obtain ⟨hn0, hx⟩ := hs p (List.mem_of_getElem? hp)
  obtain ⟨b, m, q, hf⟩ := hx.form
  rw [hf] at hx hc
  exact ⟨g, 0, hga, hlt, b, m, q, by rw [Nat.zero_add]; exact hc, (fun e => hn0 m q (by rw [hf, e])), hx⟩
theorem CR.done {W : World} {ls : List (List Xt)} {cs : List Xt} {al : Option Addr} {nl cl : Nat} {ac : Option Addr} {nc cc : Nat} {w : World} (h : CR W ls cs al nl cl ac nc cc w) : nl = ls.length ∧ RowsX ls (.slice al nl cl) w ∧ nc = cs.length ∧ ToksX cs (.slice ac nc cc) w := by
  obtain ⟨⟨V, hV, ho, hvs⟩, ⟨P, hP, hq, hp⟩, hb⟩ := h
  obtain ⟨g1, g2⟩ := rows_row ho fun p hp => ⟨(hvs p hp).1, (hvs p hp).2.now⟩
  obtain ⟨g3, g4⟩ := toks_row hq fun p hp' => (hp p hp').now
  rw [hV] at g2
  rw [hP] at g4
  exact ⟨by rw [g1, ← hV, List.length_map], g2, by rw [g3, ← hP, List.length_map], g4⟩

end Go.Proofs.Ytipipookgcdfbaa

/-
  A row of tokens copied, and a token more behind it: at the steps of a region that draws.
-/
namespace Go.Proofs.Ytipipookgcdfbaa
open Go.RowKit

theorem Up.drewA {W w : World} {e : TypeId} {size : Nat} {v : Value} {n : Nat} {xs : List Value} (h : Up W e size v n xs w) : Up W e size v n xs w.drew := Up.over h (Below.refl _ _).drew
theorem Up.low {W W' w : World} {e : TypeId} {size : Nat} {v : Value} {n : Nat} {xs : List Value} (h : Up W' e size v n xs w) (b : Below W.heap.size W W') : Up W e size v n xs w := ⟨row_low h.1 b.size, below_up b h.2⟩
/-- An empty row behind another alloc. -/
theorem up_empty2 (w : World) (o : Obj) (e : TypeId) (size : Nat) : Up w e size (.slice (some ⟨w.heap.size + 1, 0, none⟩) 0 0) 0 [] ((w.alloc o).alloc (.cells #[] e)) := by
  have h := (up_empty (w.alloc o) e size).low ((Below.refl w.heap.size w).alloc (Nat.le_refl _) o)
  rw [show (w.alloc o).heap.size = w.heap.size + 1 from by simp] at h
  exact h
theorem blk_new (w : World) (o : Obj) : (w.alloc o).heap[w.heap.size]? = some o := heap_alloc_new w o
theorem blk_new1 (w : World) (o o' : Obj) : ((w.alloc o).alloc o').heap[w.heap.size]? = some o := (Below.heap_alloc _ _ _ (by simp)).trans (heap_alloc_new w o)
theorem blk_new2 (w : World) (o o' : Obj) : ((w.alloc o).alloc o').heap[w.heap.size + 1]? = some o' := by
  have h := heap_alloc_new (w.alloc o) o'
  rw [show (w.alloc o).heap.size = w.heap.size + 1 from by simp] at h
  exact h

/-- A token's array of one. -/
def tokObj (p : Xt × Value) : Obj := .cells #[.int .i64 p.1.k, .string p.1.x, .bool p.1.sp, .string p.1.g, .int .i64 p.1.f, .int .i64 p.1.t, .bool p.1.d, p.2] 50
theorem src_tok {w : World} {g : Nat} {p : Xt × Value} (h : w.heap[g]? = some (tokObj p)) : Src w (.slice (some ⟨g, 0, none⟩) 1 1) 1 8 (xcell p) := by
  unfold tokObj at h
  refine .inr ⟨_, 1, rfl, rfl, fun j u hj => ?_⟩
  rw [addr_add, Lib.cell_of_heap h]
  unfold xcell at hj
  match j, hj with
  | 0, hj => exact hj
  | 1, hj => exact hj
  | 2, hj => exact hj
  | 3, hj => exact hj
  | 4, hj => exact hj
  | 5, hj => exact hj
  | 6, hj => exact hj
  | 7, hj => exact hj
  | j + 8, hj => simp at hj
theorem xcell_one {p : Xt × Value} {a : Option Addr} {n c : Nat} (h : p.2 = .slice a n c) : ∀ u ∈ xcell p, u.oneCell' = true := by
  intro u hu
  simp only [xcell, List.mem_cons, List.not_mem_nil, or_false] at hu
  rcases hu with rfl | rfl | rfl | rfl | rfl | rfl | rfl | rfl
  all_goals first | rfl | (rw [h]; rfl)
theorem xcells_oneP {P : List (Xt × Value)} {v : Value} {w : World} (h : ToksPv P v w) : ∀ u ∈ xcells P, u.oneCell' = true := xcells_one (w := w) h.sits
theorem xcells_snoc (P : List (Xt × Value)) (p : Xt × Value) : xcells (P ++ [p]) = xcells P ++ xcell p := by simp [xcells]
theorem xcells_cat (P Q : List (Xt × Value)) : xcells (P ++ Q) = xcells P ++ xcells Q := by simp [xcells]

theorem step_tok {ops : Array Oper} {o : Oper} {a : Act} {w : World} {K : Act → World → Prop} {Q : Exit → Act → World → Prop} {E : Prop} (hgd : o.guard = none) (s x : Operand)
    (ho : o.op = .call { callee := .builtin .append, args := #[s, x], argTypes := #[22, 22] })
    (W : World) (d v : Value) (n m : Nat) (xs news : List Value) (hs : a.eval s = d) (hx : a.eval x = v) (hd : Up W 50 8 d n xs w) (hv : Below W.heap.size W w → Src w v m 8 news) (h1 : ∀ u ∈ news, u.oneCell' = true) (hn : n + m ≤ 1000000)
    (h : ∀ v' w', Up W 50 8 v' (n + m) (xs ++ news) w' → w.grownBy w' d.ownBlock → K (a.put o.dst v') w') :
    if Region.wanted o (yielded ops a.tmps) = true then Oper.wp Try.prog o a w K Q else E := by
  have hw : Region.wanted o (yielded ops a.tmps) = true := by simp [Region.wanted, hgd]
  rw [if_pos hw]
  obtain ⟨i0, hi, hz0, hz1, hz2⟩ := info_parts Try.infoTokC
  obtain ⟨v', w', hr, h2, h3⟩ := run_app (ty := o.type) Try.underlying22 hi hz0 hz1 hz2 rfl (by decide) (by decide) hd.1 (hv hd.2) h1 hn hd.2.size
  unfold Oper.wp execOp
  simp only [ho, resolve, invoke, builtin, Sem.run_bind, Sem.run_pure, Result.andThen_ok, List.map_toArray, List.map_cons, List.map_nil, hs, hx, hr]
  exact h v' w' ⟨h2, hd.2.grown h3 hd.2.size fun k hk => (World.ownsRow.lt hd.1 k hk).1⟩ h3

theorem blk_drew {w : World} {g : Nat} {o : Option Obj} (h : w.heap[g]? = o) : w.drew.heap[g]? = o := h

/-- An append that ends in a row somewhere. -/
theorem wpList_append_sl {ops : Array Oper} {rest : List Oper} {o : Oper} {a : Act} {w : World} {Q : Exit → Act → World → Prop} (hg : o.guard = none) (s x : Operand) (t : TypeId)
    (ho : o.op = .call { callee := .builtin .append, args := #[s, x], argTypes := #[t, t] }) (R : Nat → Nat → Nat → World → Prop)
    (h : ∃ b n c w', (Builtin.append_ #[t, t] o.type #[a.eval s, a.eval x]).run Try.prog w = .ok (.slice (some ⟨b, 0, none⟩) n c) w' ∧ R b n c w') (hK : ∀ b n c w', R b n c w' → wpList Try.prog ops Q rest (a.put o.dst (.slice (some ⟨b, 0, none⟩) n c)) w') : wpList Try.prog ops Q (o :: rest) a w := by
  obtain ⟨b, n, c, w', hr, hR⟩ := h
  exact wpList_append_ex hg s x t ho (fun v' w' => v' = .slice (some ⟨b, 0, none⟩) n c ∧ R b n c w') ⟨_, w', hr, rfl, hR⟩ fun v' w' hv => by
    rw [hv.1]
    exact hK b n c w' hv.2

end Go.Proofs.Ytipipookgcdfbaa

/-
  A text in quotes: the project's Quoted and plain, and the document's Quoted, walked.
-/
namespace Go.Proofs.Ytipipookgcdfbaa
open Go.RowKit

theorem quoted_of {X : ByteArray} {s : ByteArray} (h : X = ⟨(quoL s.data.toList).toArray⟩) : (⟨#[34]⟩ ++ X ++ ⟨#[34]⟩ : ByteArray) = ⟨(quotedL s.data.toList).toArray⟩ := by
  subst h
  apply ByteArray.ext
  simp [quotedL]

set_option maxRecDepth 100000 in
theorem pquoted_any (s : ByteArray) (w : World) (hs : s.size ≤ 1000000) : Calls Try.prog 22 #[.string s] w (StrNew ⟨(quotedL s.data.toList).toArray⟩ w) := by
  obtain ⟨X, hX⟩ : ∃ X : ByteArray, (⟨(quoL s.data.toList).toArray⟩ : ByteArray) = X := ⟨_, rfl⟩
  have hxs : X.size ≤ 2000000 := by
    have h := quoL_le s.data.toList
    rw [bytes_len] at h
    rw [← hX]
    show (quoL s.data.toList).toArray.size ≤ _
    rw [List.size_toArray]
    omega
  have HES : Hid (∀ W : World, Calls Try.prog 38 #[.string s] W (StrNew X W)) := Lib.hid (fun W => hX ▸ escaped_any s W hs)
  have HQ : Hid ((⟨#[34]⟩ ++ X ++ ⟨#[34]⟩ : ByteArray) = ⟨(quotedL s.data.toList).toArray⟩) := Lib.hid (quoted_of hX.symm)
  have q1 : (1 + X.size > 9223372036854775807) = False := by simp; omega
  have q2 : (1 + X.size + 1 > 9223372036854775807) = False := by simp; omega
  clear hX hxs
  go_enter Try.func22, Try.ntmps22
  go_wp2_with (go_at_call 38; (with_reducible refine (HES.out _).mono ?_); rintro e w1 ⟨rfl, b1⟩; have HB1 := Lib.hid b1; clear b1)
  go_ret
  exact ⟨by rw [HQ.out]; rfl, HB1.out⟩

theorem brow_push {W w : World} {ty : TypeId} {a : Option Addr} {n c : Nat} {bs : List UInt8} (h : BRow W (.slice a n c) bs w) (hn : n = bs.length) (b : UInt8) {x : Int} (hx : x = (b.toNat : Int)) {sv : Value} (hs : Src w sv 1 1 [.int .u8 x]) (hl : bs.length ≤ 900000) :
    ∃ b' n' cap w', (Builtin.append_ #[51, 51] ty #[.slice a n c, sv]).run Try.prog w = .ok (.slice (some ⟨b', 0, none⟩) n' cap) w' ∧ n' = n + 1 ∧ BRow W (.slice (some ⟨b', 0, none⟩) n' cap) (bs ++ [b]) w' := by
  obtain ⟨i0, hi, hz0, hz1, hz2⟩ := info_parts Try.infoByte
  obtain ⟨v', w', hr, hu⟩ := app_up (ty := ty) Try.underlying51 hi hz0 hz1 hz2 rfl (by decide) (by decide) h hs byte_one (by omega)
  obtain ⟨b', cap, rfl⟩ := append_form hu.1 (by omega)
  rw [← hn] at hr hu
  exact ⟨b', _, cap, w', hr, rfl, BRow.push b (by rw [← hn]; exact hu) hx⟩
theorem brow_one (W : World) (b : UInt8) {x : Int} (hx : x = (b.toNat : Int)) : BRow W (.slice (some ⟨W.heap.size, 0, none⟩) 1 1) [b] (W.alloc (.cells #[.int .u8 x] 5)) := by
  subst hx
  exact ⟨⟨rfl, .inr ⟨W.heap.size, 1, #[.int .u8 (b.toNat : Int)], rfl, Nat.le_refl _, heap_alloc_new _ _, Nat.le_refl _, by unfold maxLen; omega, rfl, rfl⟩⟩, (Below.refl _ _).alloc (Nat.le_refl _) _⟩

def RqRel (w : World) (s : ByteArray) (t3 t4 : Value) (wr : World) : Prop :=
  ∃ (k : Nat) (a : Option Addr) (n c : Nat), t3 = .slice a n c ∧ t4 = .int .i64 (k : Int) ∧ k ≤ s.size ∧ n = (34 :: quoL (s.data.toList.take k)).length ∧ BRow w (.slice a n c) (34 :: quoL (s.data.toList.take k)) wr

set_option maxRecDepth 100000 in
set_option maxHeartbeats 3200000 in
theorem rquo_any (s : ByteArray) (w : World) (hs : s.size ≤ 300000) : Calls Try.prog 23 #[.string s] w (StrNew ⟨(quotedL s.data.toList).toArray⟩ w) := by
  go_enter Try.func23, Try.ntmps23
  go_wp2
  go_loopw [3, 4] (RqRel w s) (fun _ i _ => s.size - (intOf i).toNat)
  case atStart => exact ⟨0, _, 1, 1, rfl, rfl, Nat.zero_le _, rfl, brow_one w 34 (by decide)⟩
  case round =>
    obtain ⟨k, a, n, c, rfl, rfl, hk, hn, hB⟩ := hrel
    have HB := Lib.hid hB
    have HN := Lib.hid hn
    have HLE : Hid ((34 :: quoL (s.data.toList.take k)).length ≤ 600001) := Lib.hid (by
      have := quoL_le (s.data.toList.take k)
      rw [List.length_take] at this
      simp only [List.length_cons]
      omega)
    clear hB hn
    by_cases hlt : k < s.size
    · obtain ⟨d, hd⟩ : ∃ d, s[k] = d := ⟨_, rfl⟩
      have HTK : Hid (s.data.toList.take (k + 1) = s.data.toList.take k ++ [d]) := Lib.hid (by rw [bytes_take hlt, hd])
      have hdi : ((s[k]'hlt).toNat : Int) = (d.toNat : Int) := by rw [hd]
      have hkI : (k : Int) < (s.size : Int) := by omega
      have HQ := Lib.hid (quoL_snoc (s.data.toList.take k) d)
      have h1 := byte_isB d 34 (by decide)
      have h2 := byte_isB d 92 (by decide)
      obtain ⟨b1, e1⟩ : ∃ b, decide (d = 34) = b := ⟨_, rfl⟩
      obtain ⟨b2, e2⟩ : ∃ b, decide (d = 92) = b := ⟨_, rfl⟩
      have h1 : (((d.toNat : Nat) : Int) == 34) = b1 := h1.trans e1
      have h2 : (((d.toNat : Nat) : Int) == 92) = b2 := h2.trans e2
      have HSB : Hid (specB d = (b1 || b2)) := Lib.hid (by unfold specB; rw [e1, e2])
      clear hd e1 e2
      have HW : Hid (b1 = true ∨ (b1 = false ∧ b2 = true) ∨ (b1 = false ∧ b2 = false)) := Lib.hid (by cases b1 <;> cases b2 <;> simp)
      rcases HW.out with rfl | ⟨rfl, rfl⟩ | ⟨rfl, rfl⟩
      · go_wp2_with (at_builtin; first
          | (refine wpList_append_sl rfl (.tmp 22) (.tmp 23) 51 rfl _ (brow_push (HB.out.over ((Below.refl _ _).alloc (Nat.le_refl _) _)) HN.out 92 (x := 92) (by decide) (src_one _ _ _) (by have := HLE.out; omega)) ?_; rintro b8 n8 c8 w8 ⟨hn8, h8⟩; have HN8 := Lib.hid hn8; have HB8 := Lib.hid h8; clear hn8 h8)
          | (refine wpList_append_sl rfl (.tmp 25) (.tmp 29) 51 rfl _ (brow_push (HB8.out.over ((Below.refl _ _).alloc (Nat.le_refl _) _)) (by rw [HN8.out, HN.out]; simp) d (x := (d.toNat : Int)) rfl (src_one _ _ _) (by have := HLE.out; simp only [List.length_append, List.length_cons, List.length_nil] at this ⊢; omega)) ?_; rintro b9 n9 c9 w9 ⟨hn9, h9⟩; have HN9 := Lib.hid hn9; have HB9 := Lib.hid h9; clear hn9 h9))
        go_roundw
        case rel => exact ⟨k + 1, some ⟨b9, 0, none⟩, n9, c9, rfl, by go_num, hlt, by rw [HTK.out, HQ.out, HSB.out, HN9.out, HN8.out, HN.out]; simp, by rw [HTK.out, HQ.out, HSB.out]; have h := HB9.out; simpa using h⟩
        case measure => simp [intOf]; omega
      · go_wp2_with (at_builtin; first
          | (refine wpList_append_sl rfl (.tmp 22) (.tmp 23) 51 rfl _ (brow_push (HB.out.over ((Below.refl _ _).alloc (Nat.le_refl _) _)) HN.out 92 (x := 92) (by decide) (src_one _ _ _) (by have := HLE.out; omega)) ?_; rintro b8 n8 c8 w8 ⟨hn8, h8⟩; have HN8 := Lib.hid hn8; have HB8 := Lib.hid h8; clear hn8 h8)
          | (refine wpList_append_sl rfl (.tmp 25) (.tmp 29) 51 rfl _ (brow_push (HB8.out.over ((Below.refl _ _).alloc (Nat.le_refl _) _)) (by rw [HN8.out, HN.out]; simp) d (x := (d.toNat : Int)) rfl (src_one _ _ _) (by have := HLE.out; simp only [List.length_append, List.length_cons, List.length_nil] at this ⊢; omega)) ?_; rintro b9 n9 c9 w9 ⟨hn9, h9⟩; have HN9 := Lib.hid hn9; have HB9 := Lib.hid h9; clear hn9 h9))
        go_roundw
        case rel => exact ⟨k + 1, some ⟨b9, 0, none⟩, n9, c9, rfl, by go_num, hlt, by rw [HTK.out, HQ.out, HSB.out, HN9.out, HN8.out, HN.out]; simp, by rw [HTK.out, HQ.out, HSB.out]; have h := HB9.out; simpa using h⟩
        case measure => simp [intOf]; omega
      · go_wp2_with (at_builtin; (refine wpList_append_sl rfl (.tmp 25) (.tmp 29) 51 rfl _ (brow_push (HB.out.over ((Below.refl _ _).alloc (Nat.le_refl _) _)) HN.out d (x := (d.toNat : Int)) rfl (src_one _ _ _) (by have := HLE.out; omega)) ?_; rintro b9 n9 c9 w9 ⟨hn9, h9⟩; have HN9 := Lib.hid hn9; have HB9 := Lib.hid h9; clear hn9 h9))
        go_roundw
        case rel => exact ⟨k + 1, some ⟨b9, 0, none⟩, n9, c9, rfl, by go_num, hlt, by rw [HTK.out, HQ.out, HSB.out, HN9.out, HN.out]; simp, by rw [HTK.out, HQ.out, HSB.out]; have h := HB9.out; simpa using h⟩
        case measure => simp [intOf]; omega
    · have hkI : ¬ (k : Int) < (s.size : Int) := by omega
      have HE : Hid (s.data.toList.take k = s.data.toList) := Lib.hid (List.take_of_length_le (by rw [bytes_len]; omega))
      have HCV := Lib.hid (fun (b' n' c' : Nat) (X : World) (h : n' = n + 1 ∧ BRow w (.slice (some ⟨b', 0, none⟩) n' c') ((34 :: quoL (s.data.toList.take k)) ++ [34]) X) => (by
        obtain ⟨h1, h2⟩ := h
        have hq : (34 :: quoL (s.data.toList.take k)) ++ [34] = quotedL s.data.toList := by rw [HE.out]; rfl
        have hl : n' = (quotedL s.data.toList).length := by rw [h1, HN.out, ← hq]; simp
        rw [hq, hl] at h2
        rw [hl]
        exact brow_text h2 : (convert 51 9 (.slice (some ⟨b', 0, none⟩) n' c')).run Try.prog X = .ok (.string ⟨(quotedL s.data.toList).toArray⟩) X))
      go_wp2_with (at_builtin; (refine wpList_append_sl rfl (.tmp 31) (.tmp 32) 51 rfl _ (brow_push (HB.out.over ((Below.refl _ _).alloc (Nat.le_refl _) _)) HN.out 34 (x := 34) (by decide) (src_one _ _ _) (by have := HLE.out; omega)) ?_; intro b9 n9 c9 w9 h9; have hcv := HCV.out _ _ _ _ h9; have HB9 := Lib.hid h9.2; clear h9))
      go_ret
      exact ⟨rfl, HB9.out.2⟩

end Go.Proofs.Ytipipookgcdfbaa
