/-
  Texts of the proof, put together: GrOwn, GrCopy.
-/
import Derived.Test.YtlnlpahmfpjjdaaDoorG13
import Derived.Test.YtlnlpahmfpjjdaaDoorG15

/-
  Items that lie within some blocks: what is done elsewhere leaves them; and rows that a call appends to, where they lie.
-/
namespace Go.Proofs.YtlnlpahmfpjjdaaDoor
open Go.RowKit

/-- Blocks from lo on, ahead of hi. -/
def Iv (lo hi : Nat) (g : Nat) : Prop := lo ≤ g ∧ g < hi
def ArmsP (P : Nat → Prop) (R : RelI) (qs : List (Int × List Itm)) (av : Value) (w : World) : Prop :=
  ∃ a cap, av = .slice a qs.length cap ∧ qs.length ≤ cap ∧ cap ≤ maxLen ∧ ∀ j x, qs[j]? = some x → ∃ g o, a = some ⟨g, o, none⟩ ∧ P g ∧ g < w.heap.size ∧ ∃ iv, ArmA x iv g (o + j * 2) w ∧ R x.2 iv w
def ItsPf (P : Nat → Prop) (R : RelI) (l : List Itm) (v : Value) (w : World) : Prop :=
  ∃ a cap, v = .slice a l.length cap ∧ l.length ≤ cap ∧ cap ≤ maxLen ∧ ∀ k it, l[k]? = some it → ∃ g o, a = some ⟨g, o, none⟩ ∧ P g ∧ g < w.heap.size ∧ ∃ av, ItmA it av g (o + k * 3) w ∧ ArmsP P R it.arms av w
def ItsP (P : Nat → Prop) : Nat → RelI
  | 0 => ItsPf P fun _ _ _ => False
  | d + 1 => ItsPf P (ItsP P d)

/-- Those blocks are as they were. -/
def Still (P : Nat → Prop) (w w' : World) : Prop := w.heap.size ≤ w'.heap.size ∧ ∀ g, P g → g < w.heap.size → w'.heap[g]? = w.heap[g]?
def Moves (P : Nat → Prop) (R : RelI) : Prop := ∀ l v (w w' : World), R l v w → Still P w w' → R l v w'
theorem still_cell {P : Nat → Prop} {w w' : World} (h : Still P w w') {g o : Nat} {v : Value} (hp : P g) (hg : g < w.heap.size) (hc : w.cell? ⟨g, o, none⟩ = some v) : w'.cell? ⟨g, o, none⟩ = some v := (World.cell?_of_block (h.2 g hp hg)).trans hc
theorem ArmsP.moves {P : Nat → Prop} {R : RelI} (hR : Moves P R) {qs : List (Int × List Itm)} {v : Value} {w w' : World} (h : ArmsP P R qs v w) (s : Still P w w') : ArmsP P R qs v w' := by
  obtain ⟨a, cap, hv, h1, h2, h3⟩ := h
  refine ⟨a, cap, hv, h1, h2, fun j x hx => ?_⟩
  obtain ⟨g, o, ha, hp, hg, iv, ⟨c0, c1⟩, hr⟩ := h3 j x hx
  exact ⟨g, o, ha, hp, Nat.lt_of_lt_of_le hg s.1, iv, ⟨still_cell s hp hg c0, still_cell s hp hg c1⟩, hR _ _ _ _ hr s⟩
theorem ItsPf.moves {P : Nat → Prop} {R : RelI} (hR : Moves P R) : Moves P (ItsPf P R) := by
  intro l v w w' h s
  obtain ⟨a, cap, hv, h1, h2, h3⟩ := h
  refine ⟨a, cap, hv, h1, h2, fun j x hx => ?_⟩
  obtain ⟨g, o, ha, hp, hg, iv, ⟨c0, c1, c2⟩, hr⟩ := h3 j x hx
  exact ⟨g, o, ha, hp, Nat.lt_of_lt_of_le hg s.1, iv, ⟨still_cell s hp hg c0, still_cell s hp hg c1, still_cell s hp hg c2⟩, hr.moves hR s⟩
theorem itsP_moves (P : Nat → Prop) : ∀ d, Moves P (ItsP P d)
  | 0 => ItsPf.moves fun _ _ _ _ h _ => h.elim
  | d + 1 => ItsPf.moves (itsP_moves P d)

theorem ArmsP.wide {P Q : Nat → Prop} {R S : RelI} (hPQ : ∀ g, P g → Q g) (hRS : ∀ l v w, R l v w → S l v w) {qs : List (Int × List Itm)} {v : Value} {w : World} (h : ArmsP P R qs v w) : ArmsP Q S qs v w := by
  obtain ⟨a, cap, hv, h1, h2, h3⟩ := h
  refine ⟨a, cap, hv, h1, h2, fun j x hx => ?_⟩
  obtain ⟨g, o, ha, hp, hg, iv, hc, hr⟩ := h3 j x hx
  exact ⟨g, o, ha, hPQ g hp, hg, iv, hc, hRS _ _ _ hr⟩
theorem ItsPf.wide {P Q : Nat → Prop} {R S : RelI} (hPQ : ∀ g, P g → Q g) (hRS : ∀ l v w, R l v w → S l v w) {l : List Itm} {v : Value} {w : World} (h : ItsPf P R l v w) : ItsPf Q S l v w := by
  obtain ⟨a, cap, hv, h1, h2, h3⟩ := h
  refine ⟨a, cap, hv, h1, h2, fun j x hx => ?_⟩
  obtain ⟨g, o, ha, hp, hg, iv, hc, hr⟩ := h3 j x hx
  exact ⟨g, o, ha, hPQ g hp, hg, iv, hc, hr.wide hPQ hRS⟩
theorem itsP_wide {P Q : Nat → Prop} (hPQ : ∀ g, P g → Q g) : ∀ d l v w, ItsP P d l v w → ItsP Q d l v w
  | 0, _, _, _, h => h.wide hPQ fun _ _ _ h => h.elim
  | d + 1, _, _, _, h => h.wide hPQ (itsP_wide hPQ d)
theorem ArmsP.forget {P : Nat → Prop} {R S : RelI} (hRS : ∀ l v w, R l v w → S l v w) {qs : List (Int × List Itm)} {v : Value} {w : World} (h : ArmsP P R qs v w) : ArmsOf S qs v w := by
  obtain ⟨a, cap, hv, h1, h2, h3⟩ := h
  refine ⟨a, cap, hv, h1, h2, fun j x hx => ?_⟩
  obtain ⟨g, o, ha, -, hg, iv, hc, hr⟩ := h3 j x hx
  exact ⟨g, o, ha, hg, iv, hc, hRS _ _ _ hr⟩
theorem ItsPf.forget {P : Nat → Prop} {R S : RelI} (hRS : ∀ l v w, R l v w → S l v w) {l : List Itm} {v : Value} {w : World} (h : ItsPf P R l v w) : ItsOf S l v w := by
  obtain ⟨a, cap, hv, h1, h2, h3⟩ := h
  refine ⟨a, cap, hv, h1, h2, fun j x hx => ?_⟩
  obtain ⟨g, o, ha, -, hg, iv, hc, hr⟩ := h3 j x hx
  exact ⟨g, o, ha, hg, iv, hc, hr.forget hRS⟩
theorem itsP_at (P : Nat → Prop) : ∀ d l v w, ItsP P d l v w → ItsAt d l v w
  | 0, _, _, _, h => h.forget fun _ _ _ h => h.elim
  | d + 1, _, _, _, h => h.forget (itsP_at P d)
theorem itsP_form (P : Nat → Prop) (d : Nat) : Formed (ItsP P d) := fun l v w h => itsAt_form d l v w (itsP_at P d l v w h)

/-- Nothing of that lies in a row's block. -/
def OffIv (a : Option Addr) (lo hi : Nat) : Prop := ∀ g, a = some ⟨g, 0, none⟩ → ¬ Iv lo hi g

/-- An append to a row of its own, and where it lies then. -/
theorem own_app {t ty e : TypeId} {i0 : TypeInfo} {z : Value} {size bytes : Nat} {B n m : Nat} {v sv : Value} {xs news : List Value} {w : World}
    (ht : Tryd.prog.underlying t = some (.slice e)) (hi : Tryd.prog.info? e = some i0) (hz : i0.zero = some z) (hsz : i0.size = size) (hby : i0.bytes = bytes) (hzs : z.cells.size = size) (hpos : 0 < size) (hbb : bytes ≤ 100)
    (hd : w.ownsRow B e size v n xs) (hs : Src w sv m size news) (h1 : ∀ u ∈ news, u.oneCell' = true) (hm : 0 < n + m) (hn : n + m ≤ 1000000) (hB : B ≤ w.heap.size) :
    ∃ b cap w', (Builtin.append_ #[t, t] ty #[v, sv]).run Tryd.prog w = .ok (.slice (some ⟨b, 0, none⟩) (n + m) cap) w' ∧ w'.ownsRow B e size (.slice (some ⟨b, 0, none⟩) (n + m) cap) (n + m) (xs ++ news) ∧ w.grownBy w' v.ownBlock ∧ (v.ownBlock = some b ∨ w.heap.size ≤ b) := by
  obtain ⟨v', w', hr, h2, h3⟩ := run_app (ty := ty) ht hi hz hsz hby hzs hpos hbb hd hs h1 hn hB
  obtain ⟨b, cap, rfl⟩ := append_form h2 hm
  refine ⟨b, cap, w', hr, h2, h3, ?_⟩
  have hd0 := hd
  obtain ⟨hl, ⟨rfl, rfl⟩ | ⟨g, c, cur, rfl, hg, hh, hc, hmx, hcs, htk⟩⟩ := hd
  · right
    have hx : xs = [] := List.eq_nil_of_length_eq_zero (by simpa using hl)
    subst hx
    obtain ⟨v2, w2, hr2, h4, -⟩ := run_app (ty := ty) (B := w.heap.size) ht hi hz hsz hby hzs hpos hbb ⟨hl, .inl ⟨rfl, rfl⟩⟩ hs h1 hn (Nat.le_refl _)
    rw [hr] at hr2
    cases hr2
    exact (World.ownsRow.lt h4 b rfl).1
  · rcases hs with ⟨rfl, rfl, rfl⟩ | ⟨ad, c2, rfl, hnl, hnc⟩
    · have hr2 := run_append_owned_none (P := Tryd.prog) (w := w) B t ty e i0 size ht hi (.slice (some ⟨g, 0, none⟩) n c) n xs hd0
      rw [hr] at hr2
      simp only [Result.ok.injEq, Value.slice.injEq, Option.some.injEq, Addr.mk.injEq, and_true] at hr2
      left
      rw [← hr2.1.1]
      rfl
    · by_cases hroom : n + m ≤ c
      · have hfit : n * i0.size + news.length ≤ cur.size := by
          rw [hnl, hcs, hsz, ← Nat.add_mul]
          exact Nat.mul_le_mul_right _ hroom
        have hr2 := run_append_room (P := Tryd.prog) w t ty e i0 ht hi g n c cur hh ad m c2 news (by rw [hsz]; exact hnl) hnc h1 hroom hfit
        rw [hr] at hr2
        simp only [Result.ok.injEq, Value.slice.injEq, Option.some.injEq, Addr.mk.injEq, and_true] at hr2
        left
        rw [← hr2.1.1]
        rfl
      · have hold := hd0.cells (g := g) rfl
        have hr2 := run_append_grow (P := Tryd.prog) w t ty e i0 z ht hi hz ⟨g, 0, none⟩ n c xs (by rw [hsz]; exact hl) hold ad m c2 news (by rw [hsz]; exact hnl) hnc (by omega) (by omega) (growslice_fits (by omega) (by
          rw [hby]
          have := Nat.mul_le_mul hn hbb
          omega))
        rw [hr] at hr2
        simp only [Result.ok.injEq, Value.slice.injEq, Option.some.injEq, Addr.mk.injEq, and_true] at hr2
        right
        rw [hr2.1.1]
        exact Nat.le_refl _

end Go.Proofs.YtlnlpahmfpjjdaaDoor

/-
  Items that a call puts together, one after another: its rows, and what hangs on them.
-/
namespace Go.Proofs.YtlnlpahmfpjjdaaDoor
open Go.RowKit

def icell (p : Itm × Value) : List Value := [.int .i64 p.1.k, .int .i64 p.1.line, p.2]
def icells (P : List (Itm × Value)) : List Value := P.flatMap icell
def acell (q : (Int × List Itm) × Value) : List Value := [.int .i64 q.1.1, q.2]
def acells (A : List ((Int × List Itm) × Value)) : List Value := A.flatMap acell
theorem icells_snoc (P : List (Itm × Value)) (p : Itm × Value) : icells (P ++ [p]) = icells P ++ icell p := by simp [icells]
theorem acells_snoc (A : List ((Int × List Itm) × Value)) (q : (Int × List Itm) × Value) : acells (A ++ [q]) = acells A ++ acell q := by simp [acells]

abbrev RelQ := Nat → Nat → RelI
/-- What is asked of it. -/
structure GoodQ (Q : RelQ) : Prop where
  moves : ∀ lo hi, Moves (Iv lo hi) (Q lo hi)
  wide : ∀ lo hi lo' hi', lo' ≤ lo → hi ≤ hi' → ∀ l v w, Q lo hi l v w → Q lo' hi' l v w
  form : ∀ lo hi, Formed (Q lo hi)
theorem good_none : GoodQ fun _ _ _ _ _ => False := ⟨fun _ _ _ _ _ _ h _ => h.elim, fun _ _ _ _ _ _ _ _ _ h => h.elim, fun _ _ _ _ _ h => h.elim⟩
theorem good_its (d : Nat) : GoodQ fun lo hi => ItsP (Iv lo hi) d :=
  ⟨fun _ _ => itsP_moves _ d, fun _ _ _ _ h1 h2 l v w h => itsP_wide (fun _ hg => ⟨Nat.le_trans h1 hg.1, Nat.lt_of_lt_of_le hg.2 h2⟩) d l v w h, fun _ _ => itsP_form _ d⟩

/-- Arms on their way. -/
def ArmS (lo0 : Nat) (TA : TypeId) (Q : RelQ) (pre : List (Int × List Itm)) (a : Option Addr) (n c : Nat) (w : World) : Prop :=
  ∃ A : List ((Int × List Itm) × Value), A.map Prod.fst = pre ∧ w.ownsRow lo0 TA 2 (.slice a n c) n (acells A) ∧ ∀ q ∈ A, ∃ lo hi, lo0 ≤ lo ∧ hi ≤ w.heap.size ∧ Q lo hi q.1.2 q.2 w ∧ OffIv a lo hi
/-- Items on their way. -/
def OutS (lo0 : Nat) (TI : TypeId) (Q : RelQ) (pre : List Itm) (a : Option Addr) (n c : Nat) (w : World) : Prop :=
  ∃ P : List (Itm × Value), P.map Prod.fst = pre ∧ w.ownsRow lo0 TI 3 (.slice a n c) n (icells P) ∧ ∀ p ∈ P, ∃ lo hi, lo0 ≤ lo ∧ hi ≤ w.heap.size ∧ ArmsP (Iv lo hi) (Q lo hi) p.1.arms p.2 w ∧ OffIv a lo hi

theorem ArmS.nil (lo0 : Nat) (TA : TypeId) (Q : RelQ) (w : World) : ArmS lo0 TA Q [] none 0 0 w := ⟨[], rfl, ⟨by simp [acells], .inl ⟨rfl, rfl⟩⟩, fun q hq => by cases hq⟩
theorem OutS.nil (lo0 : Nat) (TI : TypeId) (Q : RelQ) (w : World) : OutS lo0 TI Q [] none 0 0 w := ⟨[], rfl, ⟨by simp [icells], .inl ⟨rfl, rfl⟩⟩, fun q hq => by cases hq⟩

theorem still_below {lo hi : Nat} {w w' : World} (b : Below w.heap.size w w') : Still (Iv lo hi) w w' := ⟨b.size, fun g _ hg => b.block g hg⟩
theorem kept_below {B : Nat} {e : TypeId} {size n : Nat} {v : Value} {xs : List Value} {w w' : World} (h : w.ownsRow B e size v n xs) (b : Below w.heap.size w w') : w'.ownsRow B e size v n xs :=
  World.ownsRow.kept h (row := none) ⟨b.os, b.tape, b.output, b.size, fun k hk _ => b.block k hk⟩ (by cases v.ownBlock <;> simp)

theorem ArmS.over {Q : RelQ} (hQ : GoodQ Q) {lo0 : Nat} {TA : TypeId} {pre : List (Int × List Itm)} {a : Option Addr} {n c : Nat} {w w' : World} (h : ArmS lo0 TA Q pre a n c w) (b : Below w.heap.size w w') : ArmS lo0 TA Q pre a n c w' := by
  obtain ⟨A, hA, ho, hs⟩ := h
  refine ⟨A, hA, kept_below ho b, fun q hq => ?_⟩
  obtain ⟨lo, hi, h1, h2, h3, h4⟩ := hs q hq
  exact ⟨lo, hi, h1, Nat.le_trans h2 b.size, hQ.moves lo hi _ _ _ _ h3 (still_below b), h4⟩
theorem OutS.over {Q : RelQ} (hQ : GoodQ Q) {lo0 : Nat} {TI : TypeId} {pre : List Itm} {a : Option Addr} {n c : Nat} {w w' : World} (h : OutS lo0 TI Q pre a n c w) (b : Below w.heap.size w w') : OutS lo0 TI Q pre a n c w' := by
  obtain ⟨A, hA, ho, hs⟩ := h
  refine ⟨A, hA, kept_below ho b, fun q hq => ?_⟩
  obtain ⟨lo, hi, h1, h2, h3, h4⟩ := hs q hq
  exact ⟨lo, hi, h1, Nat.le_trans h2 b.size, h3.moves (hQ.moves lo hi) (still_below b), h4⟩

/-- A store below it. -/
theorem ArmS.set {Q : RelQ} (hQ : GoodQ Q) {lo0 : Nat} {TA : TypeId} {pre : List (Int × List Itm)} {a : Option Addr} {n c : Nat} {w : World} (h : ArmS lo0 TA Q pre a n c w) {b : Nat} (hb : b < lo0) (j : Nat) (u : Value) : ArmS lo0 TA Q pre a n c (w.setCell ⟨b, j, none⟩ u) := by
  obtain ⟨A, hA, ho, hs⟩ := h
  have hsz : (w.setCell ⟨b, j, none⟩ u).heap.size = w.heap.size := by simp [World.setCell]
  refine ⟨A, hA, World.ownsRow.kept ho (row := some b) ⟨rfl, rfl, rfl, by simp [World.setCell], fun k _ hk => heap_setCell_other w ⟨b, j, none⟩ k u fun e => hk (by rw [e])⟩ ?_, fun q hq => ?_⟩
  · cases hv : (Value.slice a n c).ownBlock with
    | none => left; rfl
    | some k =>
      right
      have := (World.ownsRow.lt ho k hv).1
      intro e
      cases e
      omega
  · obtain ⟨lo, hi, h1, h2, h3, h4⟩ := hs q hq
    refine ⟨lo, hi, h1, by rw [hsz]; exact h2, hQ.moves lo hi _ _ _ _ h3 ⟨by rw [hsz]; exact Nat.le_refl _, fun g hg _ => heap_setCell_other w ⟨b, j, none⟩ g u fun e => ?_⟩, h4⟩
    have h5 : g = b := e
    have := hg.1
    omega

theorem own_block {a : Option Addr} {n c k : Nat} (h : (Value.slice a n c).ownBlock = some k) {B : Nat} {w : World} {e : TypeId} {size : Nat} {xs : List Value} (ho : w.ownsRow B e size (.slice a n c) n xs) : a = some ⟨k, 0, none⟩ := by
  obtain ⟨-, ⟨hv, -⟩ | ⟨g, c', cur, hv, -⟩⟩ := ho
  · simp only [Value.slice.injEq] at hv
    rw [hv.1] at h
    cases h
  · simp only [Value.slice.injEq, true_and] at hv
    obtain ⟨rfl, -⟩ := hv
    simp only [Value.ownBlock, Option.some.injEq] at h
    rw [h]

/-- What lies apart from a row stays where the row grows. -/
theorem still_grown {B : Nat} {w w' : World} {e : TypeId} {size n c : Nat} {a : Option Addr} {xs : List Value} (ho : w.ownsRow B e size (.slice a n c) n xs) (hg : w.grownBy w' (Value.slice a n c).ownBlock) {lo hi : Nat} (hoff : OffIv a lo hi) : Still (Iv lo hi) w w' :=
  ⟨hg.size, fun g hi hlt => hg.block g hlt fun e => hoff g (own_block e.symm ho) hi⟩
theorem off_grown {B : Nat} {w : World} {e : TypeId} {size n c : Nat} {a : Option Addr} {xs : List Value} (ho : w.ownsRow B e size (.slice a n c) n xs) {b : Nat} (hb : (Value.slice a n c).ownBlock = some b ∨ w.heap.size ≤ b) {lo hi : Nat} (hoff : OffIv a lo hi) (hhi : hi ≤ w.heap.size) : OffIv (some ⟨b, 0, none⟩) lo hi := by
  intro g hg hiv
  simp only [Option.some.injEq, Addr.mk.injEq, and_true] at hg
  subst hg
  rcases hb with hb | hb
  · exact hoff b (own_block hb ho) hiv
  · have := hiv.2
    omega

theorem Tryd.infoArmR : (Tryd.prog.info? 99).map (fun i => (i.zero, i.size, i.bytes)) = some (some (.agg #[.int .i64 0, .slice none 0 0]), 2, 32) := by kernel_rfl

theorem Tryd.infoItmR : (Tryd.prog.info? 102).map (fun i => (i.zero, i.size, i.bytes)) = some (some (.agg #[.int .i64 0, .int .i64 0, .slice none 0 0]), 3, 40) := by kernel_rfl

/-- An arm more. -/
theorem ArmS.push {Q : RelQ} (hQ : GoodQ Q) {lo0 : Nat} {tA TA ty : TypeId} {i0 : TypeInfo} (ht : Tryd.prog.underlying tA = some (.slice TA)) (hin : Tryd.prog.info? TA = some i0) (hz : i0.zero = some (.agg #[.int .i64 0, .slice none 0 0])) (hsz : i0.size = 2) (hby : i0.bytes = 32)
    {pre : List (Int × List Itm)} {a : Option Addr} {n c : Nat} {w : World} (h : ArmS lo0 TA Q pre a n c w) {x : Int × List Itm} {v sv : Value} {lo hi : Nat} (hq : Q lo hi x.2 v w) (hlo : lo0 ≤ lo) (hhi : hi ≤ w.heap.size) (hoff : OffIv a lo hi) (hs : Src w sv 1 2 (acell (x, v))) (hn : n ≤ 500000) (h0 : lo0 ≤ w.heap.size) :
    ∃ b n' cap w', (Builtin.append_ #[tA, tA] ty #[.slice a n c, sv]).run Tryd.prog w = .ok (.slice (some ⟨b, 0, none⟩) n' cap) w' ∧ (n' = n + 1 ∧ ArmS lo0 TA Q (pre ++ [x]) (some ⟨b, 0, none⟩) n' cap w' ∧ Below lo0 w w') := by
  obtain ⟨A, hA, ho, hsub⟩ := h
  obtain ⟨fa, fm, fc, hv, -⟩ := hQ.form lo hi _ _ _ hq
  obtain ⟨b, cap, w', hr, h2, h3, h4⟩ := own_app (ty := ty) ht hin hz hsz hby rfl (by decide) (by decide) ho hs (by
    intro u hu
    simp only [acell, List.mem_cons, List.not_mem_nil, or_false] at hu
    rcases hu with rfl | rfl
    · rfl
    · rw [hv]; rfl) (by omega) (by omega) h0
  refine ⟨b, _, cap, w', hr, rfl, ⟨A ++ [(x, v)], by rw [List.map_append, hA]; rfl, by rw [acells_snoc]; exact h2, fun q hq' => ?_⟩, (Below.refl lo0 w).grown h3 h0 fun k hk => (World.ownsRow.lt ho k hk).1⟩
  rcases List.mem_append.1 hq' with hq' | hq'
  · obtain ⟨lo', hi', k1, k2, k3, k4⟩ := hsub q hq'
    exact ⟨lo', hi', k1, Nat.le_trans k2 h3.size, hQ.moves _ _ _ _ _ _ k3 (still_grown ho h3 k4), off_grown ho h4 k4 k2⟩
  · simp only [List.mem_cons, List.not_mem_nil, or_false] at hq'
    subst hq'
    exact ⟨lo, hi, hlo, Nat.le_trans hhi h3.size, hQ.moves _ _ _ _ _ _ hq (still_grown ho h3 hoff), off_grown ho h4 hoff hhi⟩

/-- An item more. -/
theorem OutS.push {Q : RelQ} (hQ : GoodQ Q) {lo0 : Nat} {tI TI ty : TypeId} {i0 : TypeInfo} (ht : Tryd.prog.underlying tI = some (.slice TI)) (hin : Tryd.prog.info? TI = some i0) (hz : i0.zero = some (.agg #[.int .i64 0, .int .i64 0, .slice none 0 0])) (hsz : i0.size = 3) (hby : i0.bytes = 40)
    {pre : List Itm} {a : Option Addr} {n c : Nat} {w : World} (h : OutS lo0 TI Q pre a n c w) {x : Itm} {v sv : Value} {lo hi : Nat} (hq : ArmsP (Iv lo hi) (Q lo hi) x.arms v w) (hlo : lo0 ≤ lo) (hhi : hi ≤ w.heap.size) (hoff : OffIv a lo hi) (hs : Src w sv 1 3 (icell (x, v))) (hn : n ≤ 500000) (h0 : lo0 ≤ w.heap.size) :
    ∃ b n' cap w', (Builtin.append_ #[tI, tI] ty #[.slice a n c, sv]).run Tryd.prog w = .ok (.slice (some ⟨b, 0, none⟩) n' cap) w' ∧ (n' = n + 1 ∧ OutS lo0 TI Q (pre ++ [x]) (some ⟨b, 0, none⟩) n' cap w' ∧ Below lo0 w w') := by
  obtain ⟨A, hA, ho, hsub⟩ := h
  obtain ⟨fa, fm, fc, hv, -⟩ := (hq.forget (S := Q lo hi) fun _ _ _ h => h).form
  obtain ⟨b, cap, w', hr, h2, h3, h4⟩ := own_app (ty := ty) ht hin hz hsz hby rfl (by decide) (by decide) ho hs (by
    intro u hu
    simp only [icell, List.mem_cons, List.not_mem_nil, or_false] at hu
    rcases hu with rfl | rfl | rfl
    · rfl
    · rfl
    · rw [hv]; rfl) (by omega) (by omega) h0
  refine ⟨b, _, cap, w', hr, rfl, ⟨A ++ [(x, v)], by rw [List.map_append, hA]; rfl, by rw [icells_snoc]; exact h2, fun q hq' => ?_⟩, (Below.refl lo0 w).grown h3 h0 fun k hk => (World.ownsRow.lt ho k hk).1⟩
  rcases List.mem_append.1 hq' with hq' | hq'
  · obtain ⟨lo', hi', k1, k2, k3, k4⟩ := hsub q hq'
    exact ⟨lo', hi', k1, Nat.le_trans k2 h3.size, k3.moves (hQ.moves _ _) (still_grown ho h3 k4), off_grown ho h4 k4 k2⟩
  · simp only [List.mem_cons, List.not_mem_nil, or_false] at hq'
    subst hq'
    exact ⟨lo, hi, hlo, Nat.le_trans hhi h3.size, hq.moves (hQ.moves _ _) (still_grown ho h3 hoff), off_grown ho h4 hoff hhi⟩

/-- What was put together, as it is read: arms, items. -/
theorem ArmS.done {Q : RelQ} (hQ : GoodQ Q) {lo0 : Nat} {TA : TypeId} {pre : List (Int × List Itm)} {a : Option Addr} {n c : Nat} {w : World} (h : ArmS lo0 TA Q pre a n c w) : n = pre.length ∧ ArmsP (Iv lo0 w.heap.size) (Q lo0 w.heap.size) pre (.slice a n c) w := by
  obtain ⟨A, hA, ho, hs⟩ := h
  have hl : n * 2 = A.length * 2 := by
    have := ho.1
    unfold acells at this
    rw [flat_len (n := 2) (fun _ => rfl)] at this
    exact this.symm
  have hp : pre.length = A.length := by rw [← hA, List.length_map]
  obtain ⟨a', cap, hv, h1, h2, h3⟩ := row_form ho
  simp only [Value.slice.injEq, true_and] at hv
  obtain ⟨rfl, rfl⟩ := hv
  refine ⟨by omega, a, c, by rw [show n = pre.length from by omega], by omega, h2, fun k x hx => ?_⟩
  rw [← hA, List.getElem?_map, Option.map_eq_some_iff] at hx
  obtain ⟨q, hq, rfl⟩ := hx
  have hg := fun j (hj : j < 2) => flat_get (f := acell) (n := 2) (fun _ => rfl) A k q hq j hj
  obtain ⟨g, hga, hlt, c0⟩ := h3 (k * 2 + 0) _ ((hg 0 (by omega)).trans rfl)
  obtain ⟨g', hga', -, c1⟩ := h3 (k * 2 + 1) _ ((hg 1 (by omega)).trans rfl)
  rw [hga] at hga'
  simp only [Option.some.injEq, Addr.mk.injEq, and_true] at hga'
  subst hga'
  obtain ⟨lo, hi, k1, k2, k3, -⟩ := hs q (List.mem_of_getElem? hq)
  refine ⟨g, 0, hga, ⟨(World.ownsRow.lt ho g (by rw [hga]; rfl)).1, hlt⟩, hlt, q.2, ?_, hQ.wide _ _ _ _ k1 k2 _ _ _ k3⟩
  rw [Nat.zero_add]
  exact ⟨c0, c1⟩
theorem OutS.done {Q : RelQ} (hQ : GoodQ Q) {lo0 : Nat} {TI : TypeId} {pre : List Itm} {a : Option Addr} {n c : Nat} {w : World} (h : OutS lo0 TI Q pre a n c w) : n = pre.length ∧ ItsPf (Iv lo0 w.heap.size) (Q lo0 w.heap.size) pre (.slice a n c) w := by
  obtain ⟨A, hA, ho, hs⟩ := h
  have hl : n * 3 = A.length * 3 := by
    have := ho.1
    unfold icells at this
    rw [flat_len (n := 3) (fun _ => rfl)] at this
    exact this.symm
  have hp : pre.length = A.length := by rw [← hA, List.length_map]
  obtain ⟨a', cap, hv, h1, h2, h3⟩ := row_form ho
  simp only [Value.slice.injEq, true_and] at hv
  obtain ⟨rfl, rfl⟩ := hv
  refine ⟨by omega, a, c, by rw [show n = pre.length from by omega], by omega, h2, fun k x hx => ?_⟩
  rw [← hA, List.getElem?_map, Option.map_eq_some_iff] at hx
  obtain ⟨q, hq, rfl⟩ := hx
  have hg := fun j (hj : j < 3) => flat_get (f := icell) (n := 3) (fun _ => rfl) A k q hq j hj
  obtain ⟨g, hga, hlt, c0⟩ := h3 (k * 3 + 0) _ ((hg 0 (by omega)).trans rfl)
  obtain ⟨g', hga', -, c1⟩ := h3 (k * 3 + 1) _ ((hg 1 (by omega)).trans rfl)
  obtain ⟨g'', hga'', -, c2⟩ := h3 (k * 3 + 2) _ ((hg 2 (by omega)).trans rfl)
  rw [hga] at hga' hga''
  simp only [Option.some.injEq, Addr.mk.injEq, and_true] at hga' hga''
  subst hga' hga''
  obtain ⟨lo, hi, k1, k2, k3, -⟩ := hs q (List.mem_of_getElem? hq)
  refine ⟨g, 0, hga, ⟨(World.ownsRow.lt ho g (by rw [hga]; rfl)).1, hlt⟩, hlt, q.2, ?_, k3.wide (fun g hg => ⟨Nat.le_trans k1 hg.1, Nat.lt_of_lt_of_le hg.2 k2⟩) (hQ.wide _ _ _ _ k1 k2)⟩
  rw [Nat.zero_add]
  exact ⟨c0, c1, c2⟩

theorem ArmS.off {lo0 : Nat} {TA : TypeId} {Q : RelQ} {pre : List (Int × List Itm)} {a : Option Addr} {n c : Nat} {w : World} (h : ArmS lo0 TA Q pre a n c w) {lo hi : Nat} (hlo : w.heap.size ≤ lo) : OffIv a lo hi := by
  obtain ⟨A, -, ho, -⟩ := h
  intro g hg hiv
  have h1 := (World.ownsRow.lt ho g (by rw [hg]; rfl)).2
  have h2 := hiv.1
  omega
theorem OutS.off {lo0 : Nat} {TA : TypeId} {Q : RelQ} {pre : List Itm} {a : Option Addr} {n c : Nat} {w : World} (h : OutS lo0 TA Q pre a n c w) {lo hi : Nat} (hlo : w.heap.size ≤ lo) : OffIv a lo hi := by
  obtain ⟨A, -, ho, -⟩ := h
  intro g hg hiv
  have h1 := (World.ownsRow.lt ho g (by rw [hg]; rfl)).2
  have h2 := hiv.1
  omega
theorem OutS.pushV {Q : RelQ} (hQ : GoodQ Q) {lo0 : Nat} {tI TI ty : TypeId} {i0 : TypeInfo} (ht : Tryd.prog.underlying tI = some (.slice TI)) (hin : Tryd.prog.info? TI = some i0) (hz : i0.zero = some (.agg #[.int .i64 0, .int .i64 0, .slice none 0 0])) (hsz : i0.size = 3) (hby : i0.bytes = 40)
    {pre : List Itm} {a : Option Addr} {n c : Nat} {w : World} (h : OutS lo0 TI Q pre a n c w) {x : Itm} {v sv : Value} {lo hi : Nat} (hq : ArmsP (Iv lo hi) (Q lo hi) x.arms v w) (hlo : lo0 ≤ lo) (hhi : hi ≤ w.heap.size) (hoff : OffIv a lo hi) (hs : Src w sv 1 3 (icell (x, v))) (hn : n ≤ 500000) (h0 : lo0 ≤ w.heap.size) :
    ∃ v' w', (Builtin.append_ #[tI, tI] ty #[.slice a n c, sv]).run Tryd.prog w = .ok v' w' ∧ ∃ b n' cap, v' = .slice (some ⟨b, 0, none⟩) n' cap ∧ n' = n + 1 ∧ OutS lo0 TI Q (pre ++ [x]) (some ⟨b, 0, none⟩) n' cap w' ∧ Below lo0 w w' := by
  obtain ⟨b, n', cap, w', hr, hp⟩ := OutS.push (ty := ty) hQ ht hin hz hsz hby h hq hlo hhi hoff hs hn h0
  exact ⟨_, w', hr, b, n', cap, rfl, hp⟩

/-- Not too many anywhere. -/
def SmallF : Nat → List Itm → Prop
  | 0, l => l.length ≤ 500000
  | d + 1, l => l.length ≤ 500000 ∧ ∀ it ∈ l, it.arms.length ≤ 500000 ∧ ∀ x ∈ it.arms, SmallF d x.2

theorem Tryd.infoArmG : (Tryd.prog.info? 68).map (fun i => (i.zero, i.size, i.bytes)) = some (some (.agg #[.int .i64 0, .slice none 0 0]), 2, 32) := by kernel_rfl

theorem Tryd.infoItmG : (Tryd.prog.info? 66).map (fun i => (i.zero, i.size, i.bytes)) = some (some (.agg #[.int .i64 0, .int .i64 0, .slice none 0 0]), 3, 40) := by kernel_rfl

end Go.Proofs.YtlnlpahmfpjjdaaDoor
