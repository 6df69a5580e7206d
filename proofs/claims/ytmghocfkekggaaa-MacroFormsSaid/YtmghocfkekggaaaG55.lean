/-
  Texts of the proof, put together: MfP, MfW, MfF, MfB.
-/
import Derived.Test.YtmghocfkekggaaaG54
import Derived.Test.YtmghocfkekggaaaG39
import Derived.Test.YtmghocfkekggaaaG26
import Derived.Test.YtmghocfkekggaaaG40

/-
  Definitions that were put together, read: over lists.
-/
namespace Go.Proofs.Ytmghocfkekggaaa
open Go.RowKit

def kxX (t : Xt) : Int × List UInt8 × Bool := (t.k, t.x.data.toList, t.sp)
def ki (u : Kt) : Int × List UInt8 × Bool := ((u.1 : Int), u.2.1, u.2.2)
theorem kxX_of (u : Tk) : kxX (xtOf fB u) = ki (kxs u) := rfl
def NoN (l : List UInt8) : Prop := ∀ c ∈ l, c ≠ 10
theorem lexT_kt {s : ByteArray} {l : List UInt8} (hs : s.data.toList = l) (hp : PlB l) (h10 : NoN l) : (lexT s).map kxX = (kt false (l ++ [10])).map ki := by
  have hl : s.size = l.length := by rw [← hs]; exact Array.length_toList.symm
  rw [← lexF_kt hp h10]
  unfold lexT lexF
  rw [hs, hl, List.map_map, List.map_map]
  rfl

theorem ktF_len : ∀ (m : Nat) (a b : Bool) (l : List UInt8), (ktF m a l).length = (ktF m b l).length
  | 0, _, _, _ => rfl
  | m + 1, a, b, l => by
    unfold ktF
    cases item l <;> rfl
theorem kt_len (a b : Bool) (l : List UInt8) : (kt a l).length = (kt b l).length := ktF_len _ _ _ _
theorem ktF_le : ∀ (m : Nat) (a : Bool) (l : List UInt8), (ktF m a l).length ≤ m
  | 0, _, _ => Nat.le_refl _
  | m + 1, a, l => by
    unfold ktF
    split
    · exact Nat.zero_le _
    · exact Nat.zero_le _
    · exact Nat.le_succ_of_le (ktF_le m _ _)
    · exact Nat.succ_le_succ (ktF_le m _ _)
theorem ktF_size : ∀ (m : Nat) (a : Bool) (l : List UInt8), ∀ u ∈ ktF m a l, u.2.1.length ≤ l.length
  | 0, _, _, u, h => by cases h
  | m + 1, a, l, u, h => by
    unfold ktF at h
    split at h
    · cases h
    · cases h
    · have := ktF_size m _ _ u h
      rw [List.length_drop] at this
      omega
    · rcases List.mem_cons.1 h with rfl | h
      · simp only [List.length_take]
        omega
      · have := ktF_size m _ _ u h
        rw [List.length_drop] at this
        omega
/-- Tokens that may be read as a definition. -/
theorem lexT_fit {s : ByteArray} {l : List UInt8} (hs : s.data.toList = l) (hp : PlB l) (h10 : NoN l) : (lexT s).length ≤ l.length + 1 ∧ (∀ t ∈ lexT s, t.ss = []) ∧ ∀ t ∈ lexT s, t.x.size ≤ l.length + 1 := by
  have h := lexT_kt hs hp h10
  refine ⟨?_, fun t ht => ?_, fun t ht => ?_⟩
  · have := congrArg List.length h
    rw [List.length_map, List.length_map] at this
    rw [this]
    have := ktF_le (l ++ [10]).length false (l ++ [10])
    unfold kt
    simpa using this
  · unfold lexT at ht
    obtain ⟨u, -, rfl⟩ := List.mem_map.1 ht
    rfl
  · have hm : kxX t ∈ (kt false (l ++ [10])).map ki := h ▸ List.mem_map_of_mem (f := kxX) ht
    obtain ⟨u, hu, he⟩ := List.mem_map.1 hm
    have := ktF_size _ _ _ u hu
    have h2 : u.2.1 = t.x.data.toList := congrArg (fun z => z.2.1) he
    rw [h2] at this
    simpa using this

def Wd (p : List UInt8) : Prop := p ≠ [] ∧ ∀ c ∈ p, 97 ≤ c.toNat ∧ c.toNat ≤ 122
theorem Wd.bd {p : List UInt8} (h : Wd p) : ∀ c ∈ p, BdC c := fun c hc => .inl (h.2 c hc)
theorem bd_plb {p : List UInt8} (h : ∀ c ∈ p, BdC c) : PlB p := fun c hc => ⟨(h c hc).ne.2.2.2.2.2.2.2.1, (h c hc).ne.2.2.2.2.2.2.2.2⟩
theorem bd_non {p : List UInt8} (h : ∀ c ∈ p, BdC c) : NoN p := fun c hc => (h c hc).ne.1
theorem bd_nq {p : List UInt8} (h : ∀ c ∈ p, BdC c) : NQ p := fun c hc => ⟨(h c hc).ne.2.1, (h c hc).ne.2.2.1⟩
theorem NoN.app {x y : List UInt8} (hx : NoN x) (hy : NoN y) : NoN (x ++ y) := fun c hc => by
  rcases List.mem_append.1 hc with h | h
  · exact hx c h
  · exact hy c h
theorem e10_app (x : List UInt8) {t : List UInt8} (h : E10 t) : E10 (x ++ t) := by
  obtain ⟨h1, h2⟩ := h
  refine ⟨by rw [List.length_append]; omega, ?_⟩
  rw [List.length_append, show x.length + t.length - 1 = x.length + (t.length - 1) from by omega, get_right]
  exact h2

theorem e10_cons (c : UInt8) {t : List UInt8} (h : E10 t) : E10 (c :: t) := e10_app [c] h
theorem NQ.cons {c : UInt8} {t : List UInt8} (hc : c ≠ 34 ∧ c ≠ 39) (h : NQ t) : NQ (c :: t) := fun d hd => by
  rcases List.mem_cons.1 hd with rfl | hd
  · exact hc
  · exact h d hd
theorem kt_word {p t : List UInt8} {sp : Bool} (hp : Wd p) (ht : isWord (t.getD 0 0) = false) (hq : NQ t) (hE : E10 t) : kt sp (p ++ t) = (1, p, sp) :: kt false t := by
  obtain ⟨h0, hw⟩ := hp
  cases p with
  | nil => exact absurd rfl h0
  | cons c p =>
    refine kt_on (e10_app _ hE) (item_word (BdC.let (hw c List.mem_cons_self)) (fun d hd => ?_) ht (NQ.app (bd_nq (Wd.bd ⟨h0, hw⟩)) hq))
    unfold isWord
    rw [BdC.let (hw d (List.mem_cons_of_mem _ hd))]
    rfl
theorem kt_sign {c : UInt8} {t : List UInt8} {sp : Bool} (hc : c = 40 ∨ c = 41 ∨ c = 44) (hE : E10 t) : kt sp (c :: t) = (5, [c], sp) :: kt false t := by
  refine kt_on (x := [c]) (e10_cons c hE) ?_
  rcases hc with rfl | rfl | rfl <;> rfl
theorem kt_blank {t : List UInt8} {sp : Bool} (hE : E10 t) : kt sp (32 :: t) = kt true t := kt_gap (n := 1) (e10_cons 32 hE) rfl

/-- A row of parameters: its text, its tokens. -/
def joinB : List (List UInt8) → List UInt8
  | [] => []
  | [p] => p
  | p :: q :: r => p ++ 44 :: 32 :: joinB (q :: r)
def rowK : Bool → List (List UInt8) → List Kt
  | _, [] => []
  | sp, [p] => [(1, p, sp)]
  | sp, p :: q :: r => (1, p, sp) :: (5, [44], false) :: rowK true (q :: r)
theorem joinB_snoc : ∀ (ps : List (List UInt8)) (p : List UInt8), ps ≠ [] → joinB (ps ++ [p]) = joinB ps ++ 44 :: 32 :: p
  | [], _, h => absurd rfl h
  | [a], p, _ => rfl
  | a :: b :: r, p, _ => by
    have := joinB_snoc (b :: r) p (by simp)
    show a ++ 44 :: 32 :: joinB (b :: r ++ [p]) = _
    rw [this]
    simp [joinB]
theorem joinB_mem : ∀ {ps : List (List UInt8)} {c : UInt8}, c ∈ joinB ps → c = 44 ∨ c = 32 ∨ ∃ p ∈ ps, c ∈ p
  | [], c, h => by cases h
  | [p], c, h => .inr (.inr ⟨p, List.mem_cons_self, h⟩)
  | p :: q :: r, c, h => by
    have h : c ∈ p ++ 44 :: 32 :: joinB (q :: r) := h
    rcases List.mem_append.1 h with h | h
    · exact .inr (.inr ⟨p, List.mem_cons_self, h⟩)
    · rcases List.mem_cons.1 h with h | h
      · exact .inl h
      · rcases List.mem_cons.1 h with h | h
        · exact .inr (.inl h)
        · rcases joinB_mem h with h | h | ⟨p', hp, h⟩
          · exact .inl h
          · exact .inr (.inl h)
          · exact .inr (.inr ⟨p', List.mem_cons_of_mem _ hp, h⟩)
theorem joinB_nq {ps : List (List UInt8)} (h : ∀ p ∈ ps, Wd p) : NQ (joinB ps) := fun c hc => by
  rcases joinB_mem hc with rfl | rfl | ⟨p, hp, hc⟩
  · decide
  · decide
  · exact bd_nq (h p hp).bd c hc
theorem kt_row : ∀ (ps : List (List UInt8)) (sp : Bool) (t : List UInt8), ps ≠ [] → (∀ p ∈ ps, Wd p) → isWord (t.getD 0 0) = false → NQ t → E10 t → kt sp (joinB ps ++ t) = rowK sp ps ++ kt false t
  | [], _, _, h, _, _, _, _ => absurd rfl h
  | [p], sp, t, _, hw, ht, hq, hE => kt_word (hw p List.mem_cons_self) ht hq hE
  | p :: q :: r, sp, t, _, hw, ht, hq, hE => by
    have hw' : ∀ x ∈ q :: r, Wd x := fun x hx => hw x (List.mem_cons_of_mem _ hx)
    have ih := kt_row (q :: r) true t (by simp) hw' ht hq hE
    have hE2 := e10_app (joinB (q :: r)) hE
    have hq2 := (joinB_nq hw').app hq
    show kt sp ((p ++ 44 :: 32 :: joinB (q :: r)) ++ t) = (1, p, sp) :: (5, [44], false) :: (rowK true (q :: r) ++ kt false t)
    rw [List.append_assoc, List.cons_append, List.cons_append, kt_word (hw p List.mem_cons_self) rfl (NQ.cons (by decide) (NQ.cons (by decide) hq2)) (e10_cons 44 (e10_cons 32 hE2)), kt_sign (.inr (.inr rfl)) (e10_cons 32 hE2), kt_blank hE2, ih]

/-- The head of a definition, with its bracket behind the name. -/
theorem kt_head {name t : List UInt8} {ps : List (List UInt8)} (hn : Wd name) (hw : ∀ p ∈ ps, Wd p) (hq : NQ t) (hE : E10 t) : kt false (name ++ 40 :: (joinB ps ++ 41 :: t)) = (1, name, false) :: (5, [40], false) :: (rowK false ps ++ (5, [41], false) :: kt false t) := by
  have hE1 := e10_cons 41 hE
  have hq1 : NQ (41 :: t) := NQ.cons (by decide) hq
  have hE2 := e10_app (joinB ps) hE1
  have hq2 := (joinB_nq hw).app hq1
  have hr : kt false (joinB ps ++ 41 :: t) = rowK false ps ++ (5, [41], false) :: kt false t := by
    cases ps with
    | nil => exact kt_sign (.inr (.inl rfl)) hE
    | cons p r =>
      rw [kt_row (p :: r) false (41 :: t) (by simp) hw rfl hq1 hE1, kt_sign (.inr (.inl rfl)) hE]
  rw [kt_word hn rfl (NQ.cons (by decide) hq2) (e10_cons 40 hE2), kt_sign (.inl rfl) hE2, hr]
/-- With space ahead of the bracket. -/
theorem kt_head2 {name t : List UInt8} {ps : List (List UInt8)} (hn : Wd name) (hw : ∀ p ∈ ps, Wd p) (hq : NQ t) (hE : E10 t) : kt false (name ++ 32 :: 40 :: 32 :: (joinB ps ++ 32 :: 41 :: t)) = (1, name, false) :: (5, [40], true) :: (rowK true ps ++ (5, [41], true) :: kt false t) := by
  have hE1 := e10_cons 41 hE
  have hE0 := e10_cons 32 hE1
  have hq1 : NQ (32 :: 41 :: t) := NQ.cons (by decide) (NQ.cons (by decide) hq)
  have hE2 := e10_app (joinB ps) hE0
  have hq2 := (joinB_nq hw).app hq1
  have hr : kt true (joinB ps ++ 32 :: 41 :: t) = rowK true ps ++ (5, [41], true) :: kt false t := by
    cases ps with
    | nil =>
      show kt true (32 :: 41 :: t) = _
      rw [kt_blank hE1]
      exact kt_sign (.inr (.inl rfl)) hE
    | cons p r =>
      rw [kt_row (p :: r) true (32 :: 41 :: t) (by simp) hw rfl hq1 hE0, kt_blank hE1, kt_sign (.inr (.inl rfl)) hE]
  rw [kt_word hn rfl (NQ.cons (by decide) (NQ.cons (by decide) (NQ.cons (by decide) hq2))) (e10_cons 32 (e10_cons 40 (e10_cons 32 hE2))), kt_blank (e10_cons 40 (e10_cons 32 hE2)), kt_sign (.inl rfl) (e10_cons 32 hE2), kt_blank hE2, hr]

-- reading
theorem kx_of {t : Xt} {k : Nat} {x : List UInt8} {sp : Bool} (h : kxX t = ki (k, x, sp)) : t.k = (k : Int) ∧ t.x = ⟨x.toArray⟩ ∧ t.sp = sp := by
  unfold kxX ki at h
  simp only [Prod.mk.injEq] at h
  obtain ⟨h1, h2, h3⟩ := h
  exact ⟨h1, ByteArray.ext (Array.toList_inj.1 (by rw [h2])), h3⟩
theorem bs_eq {x y : List UInt8} : ((⟨x.toArray⟩ : ByteArray) = ⟨y.toArray⟩) ↔ x = y :=
  ⟨fun h => by have := congrArg (fun z : ByteArray => z.data.toList) h; simpa using this, fun h => by rw [h]⟩
theorem isX_kx {t : Xt} {k : Nat} {x : List UInt8} {sp : Bool} (h : kxX t = ki (k, x, sp)) (s : List UInt8) : isX t ⟨s.toArray⟩ = (decide (k = 5) && decide (x = s)) := by
  obtain ⟨h1, h2, -⟩ := kx_of h
  rw [isX_eq, h1, h2]
  congr 1
  · exact decide_eq_decide.2 (by omega)
  · exact decide_eq_decide.2 bs_eq

abbrev bsOf (p : List UInt8) : ByteArray := ⟨p.toArray⟩
theorem wd_va {p : List UInt8} (h : Wd p) : bsOf p ≠ vaB := fun e => by
  have e1 : p = [95, 95, 86, 65, 95, 65, 82, 71, 83, 95, 95] := bs_eq.1 e
  have := h.2 95 (by rw [e1]; simp)
  revert this
  decide

theorem two_of {R : List Xt} {a b : Int × List UInt8 × Bool} {Q : List (Int × List UInt8 × Bool)} (h : R.map kxX = a :: b :: Q) : ∃ t u q, R = t :: u :: q ∧ kxX t = a ∧ kxX u = b ∧ q.map kxX = Q := by
  cases R with
  | nil => cases h
  | cons t R =>
    simp only [List.map_cons, List.cons.injEq] at h
    obtain ⟨h1, h2⟩ := h
    cases R with
    | nil => cases h2
    | cons u q =>
      simp only [List.map_cons, List.cons.injEq] at h2
      exact ⟨t, u, q, rfl, h1, h2.1, h2.2⟩
theorem row_parse : ∀ (ps : List (List UInt8)) (acc : List ByteArray) (sp b : Bool) (R : List Xt) (Q : List (Int × List UInt8 × Bool)), ps ≠ [] → R.map kxX = (rowK sp ps).map ki ++ ki (5, [41], b) :: Q → (∀ p ∈ ps, Wd p) → ps.Nodup → (∀ p ∈ ps, bsOf p ∉ acc) →
    ∃ q, rowL acc R = some (false, acc ++ ps.map bsOf, q) ∧ q.map kxX = Q
  | [], _, _, _, _, _, h, _, _, _, _ => absurd rfl h
  | [p], acc, sp, b, R, Q, _, hR, hw, hnd, hacc => by
    have hR : R.map kxX = ki (1, p, sp) :: ki (5, [41], b) :: Q := hR
    obtain ⟨t, u, q, rfl, ht, hu, hq⟩ := two_of hR
    · obtain ⟨t1, t2, -⟩ := kx_of ht
      refine ⟨q, ?_, hq⟩
      have hp : parB acc t = true := by
        unfold parB
        rw [t1, t2, decide_eq_true (show ((1 : Nat) : Int) = 1 from rfl), decide_eq_false (wd_va (hw p List.mem_cons_self))]
        cases hm : memB (bsOf p) acc with
        | false => rfl
        | true => exact absurd (memB_iff.1 hm) (hacc p List.mem_cons_self)
      rw [show rowL acc (t :: u :: q) = (if isX t eB then (if isX u cB then some (true, acc ++ [vaB], q) else none)
        else if parB acc t then (if isX u cB then some (false, acc ++ [t.x], q) else if isX u kB then rowL (acc ++ [t.x]) q else none)
        else none) from rfl, isX_kx ht [46, 46, 46], isX_kx hu [41], hp, t2]
      simp
  | p :: p' :: r, acc, sp, b, R, Q, _, hR, hw, hnd, hacc => by
    have hR : R.map kxX = ki (1, p, sp) :: ki (5, [44], false) :: ((rowK true (p' :: r)).map ki ++ ki (5, [41], b) :: Q) := hR
    obtain ⟨t, u, q, rfl, ht, hu, hq⟩ := two_of hR
    · obtain ⟨t1, t2, -⟩ := kx_of ht
      have hp : parB acc t = true := by
        unfold parB
        rw [t1, t2, decide_eq_true (show ((1 : Nat) : Int) = 1 from rfl), decide_eq_false (wd_va (hw p List.mem_cons_self))]
        cases hm : memB (bsOf p) acc with
        | false => rfl
        | true => exact absurd (memB_iff.1 hm) (hacc p List.mem_cons_self)
      have hnd2 := List.nodup_cons.1 hnd
      obtain ⟨q', h1, h2⟩ := row_parse (p' :: r) (acc ++ [bsOf p]) true b q Q (by simp) hq (fun x hx => hw x (List.mem_cons_of_mem _ hx)) hnd2.2 (fun x hx h => by
        rcases List.mem_append.1 h with h | h
        · exact hacc x (List.mem_cons_of_mem _ hx) h
        · have : bsOf x = bsOf p := by simpa using h
          exact hnd2.1 (bs_eq.1 this ▸ hx))
      refine ⟨q', ?_, h2⟩
      rw [show rowL acc (t :: u :: q) = (if isX t eB then (if isX u cB then some (true, acc ++ [vaB], q) else none)
        else if parB acc t then (if isX u cB then some (false, acc ++ [t.x], q) else if isX u kB then rowL (acc ++ [t.x]) q else none)
        else none) from rfl, isX_kx ht [46, 46, 46], isX_kx hu [41], isX_kx hu [44], hp, t2, h1]
      simp

theorem head_parse {name : List UInt8} {ps : List (List UInt8)} {T : List Xt} {Q : List (Int × List UInt8 × Bool)} (hw : ∀ p ∈ ps, Wd p) (hnd : ps.Nodup)
    (hT : T.map kxX = ki (1, name, false) :: ki (5, [40], false) :: ((rowK false ps).map ki ++ ki (5, [41], false) :: Q)) :
    ∃ t r q, T = t :: r ∧ t.k = 1 ∧ t.x = bsOf name ∧ headL r = some (true, false, ps.map bsOf, q) ∧ q.map kxX = Q := by
  obtain ⟨t, o, R, rfl, ht, ho, hR⟩ := two_of hT
  · obtain ⟨t1, t2, -⟩ := kx_of ht
    obtain ⟨o1, o2, o3⟩ := kx_of ho
    have hopen : o.sp = false ∧ isX o oB = true := ⟨o3, by rw [isX_kx ho [40]]; rfl⟩
    cases ps with
    | nil =>
      match R, hR with
      | u :: q, hR =>
        simp only [List.map_cons, List.map_nil, rowK, List.nil_append, List.cons.injEq] at hR
        obtain ⟨hu, hq⟩ := hR
        refine ⟨t, o :: u :: q, q, rfl, t1, t2, ?_, hq⟩
        show (if o.sp = false ∧ isX o oB = true then (if isX u cB then some (true, false, [], q) else _) else _) = _
        rw [if_pos hopen, isX_kx hu [41]]
        rfl
    | cons p r =>
      obtain ⟨q, h1, h2⟩ := row_parse (p :: r) [] false false R Q (by simp) hR hw hnd (fun x _ h => by cases h)
      match R, hR, h1 with
      | u :: R', hR, h1 =>
        have hu : isX u cB = false := by
          cases r with
          | nil =>
            simp only [List.map_cons, rowK, List.map_nil, List.cons_append, List.cons.injEq] at hR
            rw [isX_kx (k := 1) hR.1 [41]]
            rfl
          | cons p' r =>
            simp only [List.map_cons, rowK, List.cons_append, List.cons.injEq] at hR
            rw [isX_kx (k := 1) hR.1 [41]]
            rfl
        refine ⟨t, o :: u :: R', q, rfl, t1, t2, ?_, h2⟩
        show (if o.sp = false ∧ isX o oB = true then (if isX u cB then some (true, false, [], R') else (rowL [] (u :: R')).map fun x => (true, x.1, x.2.1, x.2.2)) else _) = _
        rw [if_pos hopen, hu, h1]
        rfl

/-- No paste, no hash, no name of the rest. -/
def PlX (u : Xt) : Prop := pasteX u = false ∧ hashX u = false ∧ u.x ≠ vaB
theorem plx_of {u : Xt} (h : ∀ c ∈ u.x.data.toList, c ≠ 35 ∧ c ≠ 37 ∧ c ≠ 95) : PlX u := by
  have key : ∀ (s : List UInt8) (c : UInt8), c ∈ s → c = 35 ∨ c = 37 ∨ c = 95 → u.x ≠ ⟨s.toArray⟩ := fun s c hc h3 e => by
    have := h c (by rw [e]; exact hc)
    rcases h3 with rfl | rfl | rfl
    · exact this.1 rfl
    · exact this.2.1 rfl
    · exact this.2.2 rfl
  refine ⟨?_, ?_, key [95, 95, 86, 65, 95, 65, 82, 71, 83, 95, 95] 95 (by simp) (.inr (.inr rfl))⟩
  · rw [pasteX_eq, decide_eq_false (key [35, 35] 35 (by simp) (.inl rfl)), decide_eq_false (key [37, 58, 37, 58] 37 (by simp) (.inr (.inl rfl)))]
    simp
  · rw [hashX_eq, decide_eq_false (key [35] 35 (by simp) (.inl rfl)), decide_eq_false (key [37, 58] 37 (by simp) (.inr (.inl rfl)))]
    simp
theorem bare_mem {q : List Xt} {u : Xt} (h : u ∈ bareL q) : ∃ v ∈ q, u.k = v.k ∧ u.x = v.x := by
  cases q with
  | nil => cases h
  | cons v r =>
    rcases List.mem_cons.1 h with rfl | h
    · exact ⟨v, List.mem_cons_self, rfl, rfl⟩
    · exact ⟨u, List.mem_cons_of_mem _ h, rfl, rfl⟩
theorem plx_bare {q : List Xt} (h : ∀ u ∈ q, PlX u) : ∀ u ∈ bareL q, PlX u := fun u hu => by
  obtain ⟨v, hv, h1, h2⟩ := bare_mem hu
  obtain ⟨a, b, c⟩ := h v hv
  unfold PlX
  rw [pasteX_eq, hashX_eq] at *
  rw [h1, h2]
  exact ⟨a, b, c⟩
theorem res_wd {p : List UInt8} (h : Wd p) (hd : p ≠ [100, 101, 102, 105, 110, 101, 100]) : resB (bsOf p) = false := by
  have key : ∀ s : List UInt8, 95 ∈ s → bsOf p ≠ ⟨s.toArray⟩ := fun s hs e => by
    have e1 : p = s := bs_eq.1 e
    have := h.2 95 (e1 ▸ hs)
    revert this
    decide
  unfold resB
  rw [decide_eq_false (fun e => hd (bs_eq.1 e)), decide_eq_false (key [95, 95, 70, 73, 76, 69, 95, 95] (by simp)), decide_eq_false (key [95, 95, 76, 73, 78, 69, 95, 95] (by simp)), decide_eq_false (key [95, 95, 86, 65, 95, 65, 82, 71, 83, 95, 95] (by simp))]
  rfl
theorem parse_good {t : Xt} {r q : List Xt} {fn va : Bool} {ps : List ByteArray} (hk : t.k = 1) (hr : resB t.x = false) (hh : headL r = some (fn, va, ps, q)) (hq : ∀ u ∈ q, PlX u) : parseL (t :: r) = .inl ⟨t.x, fn, va, ps, bareL q, t.g, t.f, t.t⟩ := by
  have hm : misL fn va ps (bareL q) (bareL q).length 0 = none := by
    rcases misL_is (fn := fn) (va := va) (ps := ps) (T := bareL q) (bareL q).length 0 (by omega) with ⟨h, -⟩ | ⟨j, u, -, hu, -, hi, -⟩
    · exact h
    · exfalso
      obtain ⟨a, b, c⟩ := plx_bare hq u (List.mem_of_getElem? hu)
      unfold illX at hi
      rw [a, b, decide_eq_false c] at hi
      simp at hi
  show (if t.k ≠ 1 then _ else if resB t.x then _ else match headL r with | none => _ | some (fn, va, ps, q) => _) = _
  rw [if_neg (by simp [hk]), hr, hh]
  simp only [Bool.false_eq_true, if_false, hm]
theorem parse_bad {t u : Xt} {r q : List Xt} {va : Bool} {ps : List ByteArray} (hk : t.k = 1) (hr : resB t.x = false) (hh : headL r = some (true, va, ps, u :: q)) (hu : pasteX u = true ∨ (hashX u = true ∧ isPar ps (bareL (u :: q)) 1 = false)) : ∃ i, parseL (t :: r) = .inr i ∧ i.c = 5 := by
  have hb : bareL (u :: q) = { u with sp := false } :: q := rfl
  have hi : illX true va ps (bareL (u :: q)) 0 { u with sp := false } = true := by
    unfold illX
    rcases hu with h | ⟨h, h'⟩
    · have : pasteX { u with sp := false } = true := h
      rw [this]
      simp
    · have : hashX { u with sp := false } = true := h
      rw [this, h']
      simp
  have hm : misL true va ps (bareL (u :: q)) (bareL (u :: q)).length 0 = some 0 := by
    rw [hb] at hi ⊢
    show (match ({ u with sp := false } :: q)[0]? with | none => none | some t => if illX true va ps ({ u with sp := false } :: q) 0 t then some 0 else misL true va ps ({ u with sp := false } :: q) q.length (0 + 1)) = _
    simp only [List.getElem?_cons_zero, hi, if_true]
  refine ⟨illOf 5 { u with sp := false }, ?_, rfl⟩
  show (if t.k ≠ 1 then _ else if resB t.x then _ else match headL r with | none => _ | some (fn, va, ps, q) => _) = _
  rw [if_neg (by simp [hk]), hr, hh]
  simp only [Bool.false_eq_true, if_false, hm]
  rfl

theorem alike_kx : ∀ {T U : List Xt}, T.map kxX = U.map kxX → alikeL T U = true
  | [], [], _ => rfl
  | [], _ :: _, h => by cases h
  | _ :: _, [], h => by cases h
  | t :: T, u :: U, h => by
    simp only [List.map_cons, List.cons.injEq] at h
    obtain ⟨h1, h2⟩ := h
    unfold kxX at h1
    simp only [Prod.mk.injEq] at h1
    obtain ⟨a, b, c⟩ := h1
    have hx : t.x = u.x := ByteArray.ext (Array.toList_inj.1 b)
    show (alikeX t u && alikeL T U) = true
    unfold alikeX
    rw [a, hx, c, alike_kx h2]
    simp
theorem bare_kx {T U : List Xt} (h : T.map kxX = U.map kxX) : (bareL T).map kxX = (bareL U).map kxX := by
  match T, U, h with
  | [], [], _ => rfl
  | t :: T, u :: U, h =>
    simp only [List.map_cons, List.cons.injEq] at h
    obtain ⟨h1, h2⟩ := h
    unfold kxX at h1
    simp only [Prod.mk.injEq] at h1
    obtain ⟨a, b, c⟩ := h1
    show kxX { t with sp := false } :: T.map kxX = kxX { u with sp := false } :: U.map kxX
    rw [h2]
    unfold kxX
    rw [a, b]

end Go.Proofs.Ytmghocfkekggaaa

/-
  A word; tokens told as text.
-/
namespace Go.Proofs.Ytmghocfkekggaaa
open Go.RowKit

def lowB (c : UInt8) : Bool := decide (97 ≤ c.toNat) && decide (c.toNat ≤ 122)
def wordB (s : ByteArray) : Bool := s.data.toList.all lowB && (!(s.toList == []) && decide (s.size ≤ 20) && !(s.toList == [100, 101, 102, 105, 110, 101, 100]))

set_option maxRecDepth 100000 in
set_option maxHeartbeats 1600000 in
theorem word9_any (s : ByteArray) (w : World) (hs : s.size ≤ 9223372036854775807) : Calls Try.prog 18 #[.string s] w (BoolPost (wordB s) w) := by
  have hlen := len_byte s
  have HLEN := Lib.hid hlen
  clear hlen
  go_enter Try.func18, Try.ntmps18
  go_wp2
  go_loop [3] (fun i => ∃ k : Nat, i = .int .i64 (k : Int) ∧ k ≤ s.size ∧ ∀ j, j < k → lowB (s.data.toList.getD j 0) = true) (fun i => s.size - (intOf i).toNat)
  case atStart => exact ⟨0, rfl, Nat.zero_le _, fun j hj => by omega⟩
  case round =>
    obtain ⟨k, rfl, hk, hall⟩ := hrel
    have HA := Lib.hid hall
    clear hall
    by_cases hlt : k < s.size
    · have hg := get_byte s k hlt
      obtain ⟨c, hc⟩ : ∃ c, s[k] = c := ⟨_, rfl⟩
      have HC : Hid (s.data.toList.getD k 0 = c) := Lib.hid (hg.trans hc)
      by_cases h1 : (c.toNat : Int) < 97
      · have HE : Hid (wordB s = false) := Lib.hid (by
          unfold wordB
          rw [Bool.and_eq_false_iff]
          left
          rw [Bool.eq_false_iff]
          intro ha
          have := List.all_eq_true.1 ha c (by rw [← HC.out]; exact get_mem (by rw [HLEN.out]; exact hlt))
          unfold lowB at this
          simp only [Bool.and_eq_true, decide_eq_true_eq] at this
          omega)
        clear hg
        go_wp2
        go_ret
        exact ⟨ret_bool HE.out.symm, rfl⟩
      · by_cases h2 : (122 : Int) < (c.toNat : Int)
        · have HE : Hid (wordB s = false) := Lib.hid (by
            unfold wordB
            rw [Bool.and_eq_false_iff]
            left
            rw [Bool.eq_false_iff]
            intro ha
            have := List.all_eq_true.1 ha c (by rw [← HC.out]; exact get_mem (by rw [HLEN.out]; exact hlt))
            unfold lowB at this
            simp only [Bool.and_eq_true, decide_eq_true_eq] at this
            omega)
          clear hg
          go_wp2
          go_ret
          exact ⟨ret_bool HE.out.symm, rfl⟩
        · have HL : Hid (lowB c = true) := Lib.hid (by
            unfold lowB
            simp only [Bool.and_eq_true, decide_eq_true_eq]
            omega)
          clear hg
          go_wp2
          go_round
          case rel =>
            refine ⟨k + 1, by go_num, hlt, fun j hj => ?_⟩
            rcases Nat.lt_or_ge j k with h | h
            · exact HA.out j h
            · obtain rfl : j = k := by omega
              rw [HC.out]
              exact HL.out
          case measure => simp [intOf]; omega
    · obtain rfl : k = s.size := by omega
      have hall : s.data.toList.all lowB = true := List.all_eq_true.2 fun c hc => by
        obtain ⟨j, hj, rfl⟩ := List.getElem_of_mem hc
        have := HA.out j (by rw [HLEN.out] at hj; exact hj)
        have e : s.data.toList.getD j 0 = s.data.toList[j] := by rw [List.getD_eq_getElem?_getD, List.getElem?_eq_getElem hj]; rfl
        rw [e] at this
        exact this
      have hge : ¬ ((s.size : Int) < (s.size : Int)) := by omega
      obtain ⟨b1, h1⟩ : ∃ b, (s.toList == []) = b := ⟨_, rfl⟩
      obtain ⟨b2, h2⟩ : ∃ b, (s.toList == [100, 101, 102, 105, 110, 101, 100]) = b := ⟨_, rfl⟩
      have hle : decide ((s.size : Int) ≤ 20) = decide (s.size ≤ 20) := decide_eq_decide.2 (by omega)
      obtain ⟨b3, h3⟩ : ∃ b, decide (s.size ≤ 20) = b := ⟨_, rfl⟩
      have HE : Hid (wordB s = (!b1 && b3 && !b2)) := Lib.hid (by
        unfold wordB
        rw [hall, h1, h2, h3]
        rfl)
      rw [h3] at hle
      clear hall HA
      cases b1 with
      | true =>
        go_wp2
        go_ret
        exact ⟨ret_bool (by rw [HE.out]; rfl), rfl⟩
      | false =>
        cases b3 with
        | false =>
          go_wp2
          go_ret
          exact ⟨ret_bool (by rw [HE.out]; rfl), rfl⟩
        | true =>
          go_wp2
          go_ret
          exact ⟨ret_bool (by rw [HE.out]; simp), rfl⟩

/-- Tokens told as text. -/
def moreT : List Xt → List UInt8
  | [] => []
  | t :: r => (if t.sp then 32 :: t.x.data.toList else t.x.data.toList) ++ moreT r
def textT : List Xt → List UInt8
  | [] => []
  | t :: r => t.x.data.toList ++ moreT r
theorem moreT_snoc : ∀ (T : List Xt) (t : Xt), moreT (T ++ [t]) = moreT T ++ (if t.sp then 32 :: t.x.data.toList else t.x.data.toList)
  | [], t => by simp [moreT]
  | a :: r, t => by
    show (if a.sp then 32 :: a.x.data.toList else a.x.data.toList) ++ moreT (r ++ [t]) = _
    rw [moreT_snoc r t]
    simp [moreT]
theorem textT_snoc (T : List Xt) (t : Xt) : textT (T ++ [t]) = textT T ++ (if decide (0 < T.length) && t.sp then 32 :: t.x.data.toList else t.x.data.toList) := by
  cases T with
  | nil => simp [textT, moreT]
  | cons a r =>
    show a.x.data.toList ++ moreT (r ++ [t]) = _
    rw [moreT_snoc r t]
    simp [textT]

theorem moreT_app : ∀ (A B : List Xt), moreT (A ++ B) = moreT A ++ moreT B
  | [], B => rfl
  | a :: r, B => by
    show (if a.sp then 32 :: a.x.data.toList else a.x.data.toList) ++ moreT (r ++ B) = _
    rw [moreT_app r B]
    simp [moreT]
theorem textT_le (T : List Xt) (k : Nat) : (textT (T.take k)).length ≤ (textT T).length := by
  match T, k with
  | [], k => simp [textT]
  | a :: r, 0 => simp [textT]
  | a :: r, k + 1 =>
    have h : moreT r = moreT (r.take k) ++ moreT (r.drop k) := by rw [← moreT_app, List.take_append_drop]
    show (a.x.data.toList ++ moreT (r.take k)).length ≤ (a.x.data.toList ++ moreT r).length
    rw [h]
    simp only [List.length_append]
    omega
theorem bs_app (a b : List UInt8) : (⟨a.toArray⟩ : ByteArray) ++ ⟨b.toArray⟩ = ⟨(a ++ b).toArray⟩ := by
  apply ByteArray.ext
  simp
theorem bs_more {z x : ByteArray} {a : List UInt8} (h : z = ⟨a.toArray⟩) : z ++ x = ⟨(a ++ x.data.toList).toArray⟩ := by
  subst h
  apply ByteArray.ext
  simp
theorem bs_more32 {z x : ByteArray} {a : List UInt8} (h : z = ⟨a.toArray⟩) : z ++ ⟨#[32]⟩ ++ x = ⟨(a ++ 32 :: x.data.toList).toArray⟩ := by
  subst h
  apply ByteArray.ext
  simp

set_option maxRecDepth 100000 in
set_option maxHeartbeats 1600000 in
theorem text9_any {T : List Xt} {v : Value} {w : World} (h : ToksX T v w) (hz : (textT T).length ≤ 1000000) : Calls Try.prog 22 #[v] w (fun e w' => e = .returned (.string ⟨(textT T).toArray⟩) ∧ w = w') := by
  obtain ⟨a, n, cap, rfl⟩ := h.form
  obtain ⟨hn, hc1, hc2⟩ := h.len
  unfold maxLen at hc2
  have HN := Lib.hid hn
  have HX := Lib.hid h
  have HZ := Lib.hid hz
  clear h hn hz
  go_enter Try.func22, Try.ntmps22
  go_wp2
  go_loop [3, 4] (fun s i => ∃ (k : Nat) (z : ByteArray), i = .int .i64 (k : Int) ∧ s = .string z ∧ k ≤ n ∧ z = ⟨(textT (T.take k)).toArray⟩) (fun _ i => n - (intOf i).toNat)
  case atStart => exact ⟨0, _, rfl, rfl, Nat.zero_le _, rfl⟩
  case round =>
    obtain ⟨k, z, rfl, rfl, hk, hzz⟩ := hrel
    have HZZ := Lib.hid hzz
    have hzs : z.size ≤ 1000000 := by
      rw [hzz]
      exact Nat.le_trans (by show (textT (T.take k)).toArray.size ≤ _; simpa using textT_le T k) HZ.out
    clear hzz
    by_cases hlt : k < n
    · obtain ⟨t, ht⟩ : ∃ t, T[k]? = some t := ⟨_, List.getElem?_eq_getElem (by rw [← HN.out]; exact hlt)⟩
      obtain ⟨g, o, sa, sn, sc, rfl, hg, hsn, ⟨-, c1, c2, -, -, -, -, -⟩, -⟩ := HX.out.get ht
      have hts : T.take (k + 1) = T.take k ++ [t] := by rw [List.take_add_one, ht]; rfl
      have hsn2 := textT_snoc (T.take k) t
      rw [← hts] at hsn2
      have htl : (T.take k).length = k := by rw [List.length_take, ← HN.out]; omega
      rw [htl] at hsn2
      have hle := textT_le T (k + 1)
      rw [hsn2] at hle
      have hx : t.x.size ≤ 1000000 := by
        have h1 : t.x.size = t.x.data.toList.length := Array.length_toList.symm
        have := HZ.out
        rw [List.length_append] at hle
        split at hle
        · rw [List.length_cons] at hle
          omega
        · omega
      have HS2 := Lib.hid hsn2
      have q1 : (z.size + 1 > 9223372036854775807) = False := by simp; omega
      have q2 : (z.size + 1 + t.x.size > 9223372036854775807) = False := by simp; omega
      have q3 : (z.size + t.x.size > 9223372036854775807) = False := by simp; omega
      have hkI : (k : Int) < (n : Int) := by omega
      have hk0 : (0 : Int) ≤ (k : Int) := by omega
      obtain ⟨x, hxx⟩ : ∃ x, t.x = x := ⟨_, rfl⟩
      rw [hxx] at c1 q2 q3
      have HXX := Lib.hid hxx
      clear hts hsn2 htl hle hx ht hsn hxx
      by_cases h0 : 0 < k
      · have h0I : (0 : Int) < (k : Int) := by omega
        cases hsp : t.sp with
        | true =>
          rw [hsp] at c2
          go_wp2
          go_round
          case rel =>
            refine ⟨k + 1, _, by go_num, rfl, hlt, ?_⟩
            rw [HS2.out, hsp, decide_eq_true h0, HXX.out]
            exact bs_more32 HZZ.out
          case measure => simp [intOf]; omega
        | false =>
          rw [hsp] at c2
          go_wp2
          go_round
          case rel =>
            refine ⟨k + 1, _, by go_num, rfl, hlt, ?_⟩
            rw [HS2.out, hsp, HXX.out, Bool.and_false]
            exact bs_more HZZ.out
          case measure => simp [intOf]; omega
      · have h0I : ¬ (0 : Int) < (k : Int) := by omega
        go_wp2
        go_round
        case rel =>
          refine ⟨k + 1, _, by go_num, rfl, hlt, ?_⟩
          rw [HS2.out, decide_eq_false h0, HXX.out]
          exact bs_more HZZ.out
        case measure => simp [intOf]; omega
    · obtain rfl : k = n := by omega
      have hge : ¬ ((k : Int) < (k : Int)) := by omega
      have htk : T.take k = T := List.take_of_length_le (by rw [← HN.out]; exact Nat.le_refl _)
      have HE : Hid (z = ⟨(textT T).toArray⟩) := Lib.hid (by rw [HZZ.out, htk])
      clear htk
      go_wp2
      go_ret
      exact ⟨by rw [HE.out]; rfl, rfl⟩

end Go.Proofs.Ytmghocfkekggaaa

/-
  The texts of MacroForms, read.
-/
namespace Go.Proofs.Ytmghocfkekggaaa
open Go.RowKit

/-- What MacroForms looks at. -/
structure Fm (name : List UInt8) (ps : List (List UInt8)) (body : List UInt8) : Prop where
  nm : Wd name
  nd : name ≠ [100, 101, 102, 105, 110, 101, 100]
  pw : ∀ p ∈ ps, Wd p
  nodup : ps.Nodup
  bd : ∀ c ∈ body, BdC c
def headB (name : List UInt8) (ps : List (List UInt8)) : List UInt8 := name ++ 40 :: (joinB ps ++ [41])
/-- A byte of all these texts. -/
def TxC (c : UInt8) : Prop := BdC c ∨ c = 40 ∨ c = 41 ∨ c = 44 ∨ c = 35
theorem TxC.ne {c : UInt8} (h : TxC c) : c ≠ 10 ∧ c ≠ 34 ∧ c ≠ 39 ∧ c ≠ 92 ∧ c ≠ 63 := by
  rcases h with h | rfl | rfl | rfl | rfl
  · exact ⟨h.ne.1, h.ne.2.1, h.ne.2.2.1, h.ne.2.2.2.2.2.2.2.1, h.ne.2.2.2.2.2.2.2.2⟩
  all_goals decide
theorem txc_plb {l : List UInt8} (h : ∀ c ∈ l, TxC c) : PlB l := fun c hc => ⟨(h c hc).ne.2.2.2.1, (h c hc).ne.2.2.2.2⟩
theorem txc_non {l : List UInt8} (h : ∀ c ∈ l, TxC c) : NoN l := fun c hc => (h c hc).ne.1
theorem txc_nq {l : List UInt8} (h : ∀ c ∈ l, TxC c) : NQ l := fun c hc => ⟨(h c hc).ne.2.1, (h c hc).ne.2.2.1⟩
theorem txc_app {a b : List UInt8} (ha : ∀ c ∈ a, TxC c) (hb : ∀ c ∈ b, TxC c) : ∀ c ∈ a ++ b, TxC c := fun c hc => by
  rcases List.mem_append.1 hc with h | h
  · exact ha c h
  · exact hb c h
theorem txc_bd {b : List UInt8} (h : ∀ c ∈ b, BdC c) : ∀ c ∈ b, TxC c := fun c hc => .inl (h c hc)
theorem txc_cons {c : UInt8} {b : List UInt8} (hc : TxC c) (h : ∀ c ∈ b, TxC c) : ∀ d ∈ c :: b, TxC d := fun d hd => by
  rcases List.mem_cons.1 hd with rfl | hd
  · exact hc
  · exact h d hd
theorem txc_join {ps : List (List UInt8)} (h : ∀ p ∈ ps, Wd p) : ∀ c ∈ joinB ps, TxC c := fun c hc => by
  rcases joinB_mem hc with rfl | rfl | ⟨p, hp, hc⟩
  · exact .inr (.inr (.inr (.inl rfl)))
  · exact .inl (.inr (.inr (.inr rfl)))
  · exact .inl ((h p hp).bd c hc)
theorem tx32 : TxC 32 := .inl (.inr (.inr (.inr rfl)))
theorem tx40 : TxC 40 := .inr (.inl rfl)
theorem tx41 : TxC 41 := .inr (.inr (.inl rfl))
theorem tx35 : TxC 35 := .inr (.inr (.inr (.inr rfl)))
variable {name body : List UInt8} {ps : List (List UInt8)}

theorem Fm.head (h : Fm name ps body) {t : List UInt8} (ht : ∀ c ∈ t, TxC c) : ∀ c ∈ name ++ 40 :: (joinB ps ++ 41 :: t), TxC c :=
  txc_app (txc_bd h.nm.bd) (txc_cons tx40 (txc_app (txc_join h.pw) (txc_cons tx41 ht)))
/-- The head's tokens, and those of what stands behind it. -/
theorem Fm.toks (h : Fm name ps body) {t : List UInt8} (ht : ∀ c ∈ t, TxC c) {s : ByteArray} (hs : s.data.toList = name ++ 40 :: (joinB ps ++ 41 :: t)) :
    ∃ u r q, lexT s = u :: r ∧ u.k = 1 ∧ u.x = bsOf name ∧ headL r = some (true, false, ps.map bsOf, q) ∧ q.map kxX = (kt false (t ++ [10])).map ki := by
  have hl := lexT_kt hs (txc_plb (h.head ht)) (txc_non (h.head ht))
  have hE : E10 (t ++ [10]) := e10_snoc t
  have hq : NQ (t ++ [10]) := (txc_nq ht).app (by unfold NQ; decide)
  have e : name ++ 40 :: (joinB ps ++ 41 :: t) ++ [10] = name ++ 40 :: (joinB ps ++ 41 :: (t ++ [10])) := by simp
  rw [e, kt_head h.nm h.pw hq hE, List.map_cons, List.map_cons, List.map_append, List.map_cons] at hl
  exact head_parse h.pw h.nodup hl

/-- Tokens of a body are plain. -/
theorem kt_plx {q : List Xt} {sp : Bool} {l : List UInt8} (h : q.map kxX = (kt sp l).map ki) (hl : ∀ c ∈ l, c ≠ 35 ∧ c ≠ 37 ∧ c ≠ 95) : ∀ u ∈ q, PlX u := fun u hu => by
  have hm : kxX u ∈ (kt sp l).map ki := h ▸ List.mem_map_of_mem (f := kxX) hu
  obtain ⟨v, hv, he⟩ := List.mem_map.1 hm
  have h2 : v.2.1 = u.x.data.toList := congrArg (fun z => z.2.1) he
  exact plx_of fun c hc => hl c (kt_mem hv c (h2 ▸ hc))
theorem bd10_ok {b : List UInt8} (h : ∀ c ∈ b, BdC c) : ∀ c ∈ b ++ [10], c ≠ 35 ∧ c ≠ 37 ∧ c ≠ 95 := fun c hc => by
  rcases List.mem_append.1 hc with hc | hc
  · exact ⟨(h c hc).ne.2.2.2.2.1, (h c hc).ne.2.2.2.2.2.2.1, (h c hc).ne.2.2.2.2.2.1⟩
  · have : c = 10 := by simpa using hc
    subst this
    decide

/-- Read as it stands. -/
theorem forms_one (h : Fm name ps body) {s : ByteArray} (hs : s.data.toList = name ++ 40 :: (joinB ps ++ 41 :: 32 :: body)) :
    ∃ m q, parseL (lexT s) = .inl m ∧ m.n = bsOf name ∧ m.fn = true ∧ m.va = false ∧ m.ps = ps.map bsOf ∧ m.bd = bareL q ∧ q.map kxX = (kt true (body ++ [10])).map ki := by
  obtain ⟨u, r, q, h1, h2, h3, h4, h5⟩ := h.toks (txc_cons tx32 (txc_bd h.bd)) hs
  rw [List.cons_append, kt_blank (e10_snoc body)] at h5
  rw [h1]
  exact ⟨_, q, parse_good h2 (by rw [h3]; exact res_wd h.nm h.nd) h4 (kt_plx h5 (bd10_ok h.bd)), h3, rfl, rfl, rfl, rfl, h5⟩
theorem body_len (h : Fm name ps body) {s : ByteArray} (hs : s.data.toList = body) {q : List Xt} (hq : q.map kxX = (kt true (body ++ [10])).map ki) : (lexT s).length = (bareL q).length := by
  have hl := lexT_kt hs (txc_plb (txc_bd h.bd)) (txc_non (txc_bd h.bd))
  have h1 := congrArg List.length hl
  have h2 := congrArg List.length hq
  rw [List.length_map, List.length_map] at h1 h2
  rw [h1, bare_len, h2, kt_len]

theorem ktF_no10 : ∀ (m : Nat) (sp : Bool) (l : List UInt8), ∀ u ∈ ktF m sp l, (10 : UInt8) ∉ u.2.1
  | 0, _, _, u, h => by cases h
  | m + 1, sp, l, u, h => by
    unfold ktF at h
    split at h
    · cases h
    · cases h
    · exact ktF_no10 m _ _ u h
    · rename_i k n hit
      rcases List.mem_cons.1 h with rfl | h
      · intro h10
        obtain ⟨j, hj, he⟩ := List.getElem_of_mem h10
        simp only [List.length_take] at hj
        by_cases hl : 0 < l.length
        · have hb : begN l = 1 := by
            rcases begN_five l with hb | hb | hb | hb | hb
            · exact hb
            · rw [item_nl hb] at hit; cases hit
            · rw [item_sp hb] at hit; cases hit
            · rw [item_rem hb] at hit; cases hit
            · cases hc : comN (l.drop 2) with
              | none => rw [item_opn hb hc] at hit; cases hit
              | some q => rw [item_com hb hc] at hit; cases hit
          have h0 : l.getD 0 0 ≠ 10 := fun e => by
            have := begN_two' e
            omega
          have hin := (tok_in hl h0).2.2
          rw [item_tk hb] at hit
          have hn : (tok l).2 = n := by cases hit; rfl
          rw [hn] at hin
          have := hin j (by omega)
          simp only [List.getElem_take] at he
          rw [List.getD_eq_getElem?_getD, List.getElem?_eq_getElem (by omega)] at this
          exact this he
        · omega
      · exact ktF_no10 m _ _ u h
theorem kt_no10 {b : List UInt8} {sp : Bool} {u : Kt} (_ : ∀ c ∈ b, BdC c) (h : u ∈ kt sp (b ++ [10])) : (10 : UInt8) ∉ u.2.1 := ktF_no10 _ _ _ u h

theorem moreT_kx : ∀ {q : List Xt} {K : List Kt}, q.map kxX = K.map ki → moreT q = ttL K
  | [], [], _ => rfl
  | [], _ :: _, h => by cases h
  | _ :: _, [], h => by cases h
  | t :: q, u :: K, h => by
    simp only [List.map_cons, List.cons.injEq] at h
    obtain ⟨k, x, sp⟩ := u
    obtain ⟨-, h2, h3⟩ := kx_of h.1
    show (if t.sp then 32 :: t.x.data.toList else t.x.data.toList) ++ moreT q = (if sp then 32 :: x else x) ++ ttL K
    rw [moreT_kx h.2, h2, h3]
theorem textT_bare : ∀ (q : List Xt), textT (bareL q) = textT q
  | [] => rfl
  | _ :: _ => rfl
/-- Told again, and read. -/
theorem forms_again (h : Fm name ps body) {m : Xm} {q : List Xt} (hn : m.n = bsOf name) (hf : m.fn = true) (hv : m.va = false) (hp : m.ps = ps.map bsOf) (hb : m.bd = bareL q) (hq : q.map kxX = (kt true (body ++ [10])).map ki)
    {s : ByteArray} (hs : s.data.toList = name ++ 40 :: (joinB ps ++ 41 :: 32 :: textT m.bd)) : ∃ m2, parseL (lexT s) = .inl m2 ∧ sameM m m2 = true := by
  have hbt : BdT (body ++ [10]) := ⟨body, h.bd, rfl⟩
  have hag := kt_again _ _ true (Nat.le_refl _) hbt
  have hmem : ∀ c ∈ ttL (kt true (body ++ [10])), BdC c := fun c hc => by
    rcases tt_mem hc with rfl | ⟨u, hu, hc⟩
    · exact .inr (.inr (.inr rfl))
    · rcases hbt.mem (kt_mem hu c hc) with h | rfl
      · exact h
      · exfalso
        have hx : u ∈ kt true (body ++ [10]) := hu
        exact kt_no10 h.bd hx hc
  have hshape : ∃ t, 32 :: textT m.bd = t ∧ (∀ c ∈ t, BdC c) ∧ kt false (t ++ [10]) = kt true (body ++ [10]) := by
    rw [hb, textT_bare]
    cases q with
    | nil =>
      have hk : kt true (body ++ [10]) = [] := by
        cases hk : kt true (body ++ [10]) with
        | nil => rfl
        | cons u K => rw [hk] at hq; cases hq
      refine ⟨_, rfl, fun c hc => ?_, ?_⟩
      · have : c = 32 := by simpa [textT] using hc
        exact .inr (.inr (.inr this))
      · rw [hk]
        rfl
    | cons t r =>
      have hm := moreT_kx hq
      rcases kt_true (body ++ [10]) with e | ⟨k, x, K, e⟩
      · rw [e] at hq
        cases hq
      · have ht : t.sp = true := by
          rw [e] at hq
          simp only [List.map_cons, List.cons.injEq] at hq
          exact (kx_of hq.1).2.2
        have e2 : 32 :: textT (t :: r) = ttL (kt true (body ++ [10])) := by
          rw [← hm]
          show 32 :: (t.x.data.toList ++ moreT r) = (if t.sp then 32 :: t.x.data.toList else t.x.data.toList) ++ moreT r
          rw [ht]
          rfl
        exact ⟨_, rfl, by rw [e2]; exact hmem, by rw [e2]; exact hag⟩
  obtain ⟨t, ht, htb, hk⟩ := hshape
  rw [ht] at hs
  obtain ⟨u, r, q2, h1, h2, h3, h4, h5⟩ := h.toks (txc_bd htb) hs
  rw [hk] at h5
  rw [h1]
  refine ⟨_, parse_good h2 (by rw [h3]; exact res_wd h.nm h.nd) h4 (kt_plx h5 (bd10_ok h.bd)), ?_⟩
  unfold sameM
  simp only [hn, hf, hv, hp, hb, h3]
  rw [alike_kx (bare_kx (hq.trans h5.symm))]
  simp

/-- With space ahead of its bracket. -/
theorem forms_two (h : Fm name ps body) {s : ByteArray} (hs : s.data.toList = name ++ 32 :: 40 :: 32 :: (joinB ps ++ 32 :: 41 :: 32 :: body)) :
    ∃ m, parseL (lexT s) = .inl m ∧ m.fn = false ∧ 2 ≤ m.bd.length := by
  have htx : ∀ c ∈ name ++ 32 :: 40 :: 32 :: (joinB ps ++ 32 :: 41 :: 32 :: body), TxC c :=
    txc_app (txc_bd h.nm.bd) (txc_cons tx32 (txc_cons tx40 (txc_cons tx32 (txc_app (txc_join h.pw) (txc_cons tx32 (txc_cons tx41 (txc_cons tx32 (txc_bd h.bd))))))))
  have hl := lexT_kt hs (txc_plb htx) (txc_non htx)
  have hE : E10 (32 :: (body ++ [10])) := e10_snoc (32 :: body)
  have hq : NQ (32 :: (body ++ [10])) := (txc_nq (txc_cons tx32 (txc_bd h.bd))).app (y := [10]) (by unfold NQ; decide)
  have e : name ++ 32 :: 40 :: 32 :: (joinB ps ++ 32 :: 41 :: 32 :: body) ++ [10] = name ++ 32 :: 40 :: 32 :: (joinB ps ++ 32 :: 41 :: (32 :: (body ++ [10]))) := by simp
  rw [e] at hl
  have hall : ∀ u ∈ lexT s, PlX u := kt_plx hl fun c hc => by
    have key : ∀ d, BdC d ∨ d = 40 ∨ d = 41 ∨ d = 44 ∨ d = 10 → d ≠ 35 ∧ d ≠ 37 ∧ d ≠ 95 := fun d hd => by
      rcases hd with hd | rfl | rfl | rfl | rfl
      · exact ⟨hd.ne.2.2.2.2.1, hd.ne.2.2.2.2.2.2.1, hd.ne.2.2.2.2.2.1⟩
      all_goals decide
    refine key c ?_
    simp only [List.mem_append, List.mem_cons, List.not_mem_nil, or_false] at hc
    rcases hc with hc | rfl | rfl | rfl | hc | rfl | rfl | rfl | hc | rfl
    · exact .inl (h.nm.bd c hc)
    · exact .inl (.inr (.inr (.inr rfl)))
    · exact .inr (.inl rfl)
    · exact .inl (.inr (.inr (.inr rfl)))
    · rcases joinB_mem hc with rfl | rfl | ⟨p, hp, hc⟩
      · exact .inr (.inr (.inr (.inl rfl)))
      · exact .inl (.inr (.inr (.inr rfl)))
      · exact .inl ((h.pw p hp).bd c hc)
    · exact .inl (.inr (.inr (.inr rfl)))
    · exact .inr (.inr (.inl rfl))
    · exact .inl (.inr (.inr (.inr rfl)))
    · exact .inl (h.bd c hc)
    · exact .inr (.inr (.inr (.inr rfl)))
  rw [kt_head2 h.nm h.pw hq hE, List.map_cons, List.map_cons] at hl
  obtain ⟨u, o, R, hT, hu, ho, hR⟩ := two_of hl
  obtain ⟨u1, u2, -⟩ := kx_of hu
  obtain ⟨-, -, o3⟩ := kx_of ho
  rw [hT] at hall ⊢
  have hh : headL (o :: R) = some (false, false, [], o :: R) := by
    show (if o.sp = false ∧ isX o oB = true then _ else some (false, false, [], o :: R)) = _
    rw [if_neg (by rw [o3]; simp)]
  refine ⟨_, parse_good u1 (by rw [u2]; exact res_wd h.nm h.nd) hh fun v hv => hall v (List.mem_cons_of_mem _ hv), rfl, ?_⟩
  simp only [bare_len, List.length_cons]
  have := congrArg List.length hR
  simp only [List.length_map, List.length_append, List.length_cons] at this
  omega

/-- A paste ahead of a body. -/
theorem forms_three (h : Fm name ps body) {s : ByteArray} (hs : s.data.toList = name ++ 40 :: (joinB ps ++ 41 :: 32 :: 35 :: 35 :: 32 :: (body ++ [120]))) : ∃ i, parseL (lexT s) = .inr i ∧ i.c = 5 := by
  have htx : ∀ c ∈ (body ++ [120] : List UInt8), TxC c := txc_bd fun c hc => by
    rcases List.mem_append.1 hc with hc | hc
    · exact h.bd c hc
    · have : c = 120 := by simpa using hc
      subst this
      exact .inl (by decide)
  obtain ⟨u, r, q, h1, h2, h3, h4, h5⟩ := h.toks (txc_cons tx32 (txc_cons tx35 (txc_cons tx35 (txc_cons tx32 htx)))) hs
  have hE : E10 (body ++ [120] ++ [10]) := e10_snoc _
  have e : (32 :: 35 :: 35 :: 32 :: (body ++ [120]) ++ [10] : List UInt8) = 32 :: ([35, 35] ++ 32 :: (body ++ [120] ++ [10])) := by simp
  rw [e, kt_blank (e10_app [35, 35] (e10_cons 32 hE)), kt_on (q := 5) (e10_app [35, 35] (e10_cons 32 hE)) rfl, List.map_cons] at h5
  cases q with
  | nil => cases h5
  | cons v q =>
    simp only [List.map_cons, List.cons.injEq] at h5
    rw [h1]
    refine parse_bad h2 (by rw [h3]; exact res_wd h.nm h.nd) h4 (.inl ?_)
    unfold pasteX
    rw [isX_kx h5.1 [35, 35]]
    rfl
/-- A hash ahead of no parameter. -/
theorem forms_four (h : Fm name ps body) {s : ByteArray} (hs : s.data.toList = name ++ 40 :: (joinB ps ++ 41 :: 32 :: 35 :: 57 :: 32 :: body)) : ∃ i, parseL (lexT s) = .inr i ∧ i.c = 5 := by
  have t57 : TxC 57 := .inl (.inr (.inl (by decide)))
  obtain ⟨u, r, q, h1, h2, h3, h4, h5⟩ := h.toks (txc_cons tx32 (txc_cons tx35 (txc_cons t57 (txc_cons tx32 (txc_bd h.bd))))) hs
  have hE : E10 (body ++ [10]) := e10_snoc _
  have e : (32 :: 35 :: 57 :: 32 :: body ++ [10] : List UInt8) = 32 :: ([35] ++ ([57] ++ 32 :: (body ++ [10]))) := by simp
  rw [e, kt_blank (e10_app [35] (e10_app [57] (e10_cons 32 hE))), kt_on (q := 5) (e10_app [35] (e10_app [57] (e10_cons 32 hE))) rfl, kt_on (q := 2) (e10_app [57] (e10_cons 32 hE)) rfl, List.map_cons, List.map_cons] at h5
  obtain ⟨v, w, q', rfl, hv, hw, -⟩ := two_of h5
  rw [h1]
  refine parse_bad h2 (by rw [h3]; exact res_wd h.nm h.nd) h4 (.inr ⟨?_, ?_⟩)
  · rw [hashX_eq]
    obtain ⟨e1, e2, -⟩ := kx_of hv
    rw [e1, e2]
    rfl
  · obtain ⟨e1, -, -⟩ := kx_of hw
    show (decide (w.k = 1) && memB w.x _) = false
    rw [e1]
    rfl

end Go.Proofs.Ytmghocfkekggaaa

/-
  All that MacroForms' calls answer.
-/
namespace Go.Proofs.Ytmghocfkekggaaa
open Go.RowKit Go.Maps

theorem tt_size : ∀ {K : List Kt} {B : Nat}, (∀ u ∈ K, u.2.1.length ≤ B) → (ttL K).length ≤ K.length * (B + 1)
  | [], B, _ => Nat.zero_le _
  | (k, x, sp) :: r, B, h => by
    have h1 := h _ List.mem_cons_self
    have h2 := tt_size (K := r) (B := B) fun u hu => h u (List.mem_cons_of_mem _ hu)
    show ((if sp then 32 :: x else x) ++ ttL r).length ≤ (r.length + 1) * (B + 1)
    rw [Nat.add_mul, List.length_append]
    have h1 : x.length ≤ B := h1
    cases sp with
    | true =>
      show (x.length + 1) + _ ≤ _
      omega
    | false =>
      show x.length + _ ≤ _
      omega
theorem text_size {q : List Xt} {l : List UInt8} {sp : Bool} (hq : q.map kxX = (kt sp l).map ki) : (textT (bareL q)).length ≤ l.length * (l.length + 1) := by
  have h1 := tt_size (K := kt sp l) (B := l.length) fun u hu => ktF_size _ _ _ u hu
  have h2 : (kt sp l).length ≤ l.length := ktF_le _ _ _
  have h3 : (textT (bareL q)).length ≤ (moreT q).length := by
    rw [textT_bare]
    cases q with
    | nil => exact Nat.le_refl _
    | cons t r =>
      show (t.x.data.toList ++ moreT r).length ≤ ((if t.sp then 32 :: t.x.data.toList else t.x.data.toList) ++ moreT r).length
      rw [List.length_append, List.length_append]
      split
      · simp only [List.length_cons]
        omega
      · omega
  rw [moreT_kx hq] at h3
  exact Nat.le_trans h3 (Nat.le_trans h1 (Nat.mul_le_mul_right _ h2))

/-- A text lexed, and what its reading answers. -/
def TkP (P : World → Ending → World → Prop) (X : World) (e : Ending) (w' : World) : Prop :=
  ∃ a n c, e = .returned (.slice a n c) ∧ Below X.heap.size X w' ∧ Calls Try.prog 19 #[.slice a n c] w' (P w')
/-- Refused by code 5. -/
def Ill5 (X : World) (e : Ending) (w' : World) : Prop :=
  ∃ g, e = .returned (.tuple #[.agg #[.string ⟨#[]⟩, .bool false, .bool false, .slice none 0 0, .slice none 0 0, .string ⟨#[]⟩, .int .i64 0, .int .i64 0], .slice (some ⟨g, 0, none⟩) 1 1]) ∧ Below X.heap.size X w' ∧ g < w'.heap.size ∧ w'.cell? ⟨g, 0, none⟩ = some (.int .i64 5)

theorem tkp_of {Z : ByteArray} {P : World → Ending → World → Prop} (hz : Z.size ≤ 100000) (hp : ∀ (X : World) (v : Value), ToksX (lexT Z) v X → Calls Try.prog 19 #[v] X (P X)) (X : World) : Calls Try.prog 20 #[.string Z] X (TkP P X) :=
  (lexed9_any Z X hz).mono fun _ w' ⟨a, n, c, he, _, hx, hb⟩ => ⟨a, n, c, he, hb, hp w' _ hx⟩
theorem fit_of {Z : ByteArray} {l : List UInt8} (hz : Z.size ≤ 100000) (hs : Z.data.toList = l) (hl : ∀ c ∈ l, TxC c) : (lexT Z).length ≤ 500000 ∧ (∀ u ∈ lexT Z, u.ss.length ≤ 500000) ∧ ∀ u ∈ lexT Z, u.x.size ≤ maxLen := by
  obtain ⟨h1, h2, h3⟩ := lexT_fit hs (txc_plb hl) (txc_non hl)
  have : l.length = Z.size := by rw [← hs]; exact Array.length_toList
  refine ⟨by omega, fun u hu => by rw [h2 u hu]; exact Nat.zero_le _, fun u hu => ?_⟩
  have := h3 u hu
  unfold maxLen
  omega
theorem good_of {Z : ByteArray} {l : List UInt8} {m : Xm} (hz : Z.size ≤ 100000) (hs : Z.data.toList = l) (hl : ∀ c ∈ l, TxC c) (hp : parseL (lexT Z) = .inl m) (X : World) : Calls Try.prog 20 #[.string Z] X (TkP (fun w' => GoodPost w' m) X) := by
  obtain ⟨h1, h2, h3⟩ := fit_of hz hs hl
  refine tkp_of hz (fun Y v hv => ?_) X
  have := parse_any hv h1 h2 h3
  rw [hp] at this
  exact this.mono fun _ _ h => good_post h
theorem ill_of {Z : ByteArray} {l : List UInt8} (hz : Z.size ≤ 100000) (hs : Z.data.toList = l) (hl : ∀ c ∈ l, TxC c) (hp : ∃ i, parseL (lexT Z) = .inr i ∧ i.c = 5) (X : World) : Calls Try.prog 20 #[.string Z] X (TkP Ill5 X) := by
  obtain ⟨h1, h2, h3⟩ := fit_of hz hs hl
  obtain ⟨i, hp, hi⟩ := hp
  refine tkp_of hz (fun Y v hv => ?_) X
  have := parse_any hv h1 h2 h3
  rw [hp] at this
  refine this.mono fun _ _ ⟨g, he, hb, _, hl, hc, _⟩ => ⟨g, he, hb, hl, ?_⟩
  rw [hc, hi]

/-- What the calls behind the loops answer. -/
structure FB (name z body : ByteArray) (U : List ByteArray) (g : ByteArray) (f t : Int) (bd : List Xt) (m2 m3 : Xm) : Prop where
  one : ∀ X, Calls Try.prog 20 #[.string (name ++ ⟨#[40]⟩ ++ z ++ ⟨#[41, 32]⟩ ++ body)] X (TkP (fun w' => GoodPost w' ⟨name, true, false, U, bd, g, f, t⟩) X)
  two : ∀ X, Calls Try.prog 20 #[.string (name ++ ⟨#[32, 40, 32]⟩ ++ z ++ ⟨#[32, 41, 32]⟩ ++ body)] X (TkP (fun w' => GoodPost w' m2) X)
  fn2 : m2.fn = false
  bd2 : 2 ≤ m2.bd.length
  bdy : ∀ X, Calls Try.prog 20 #[.string body] X (fun e w' => ∃ a c, e = .returned (.slice a bd.length c) ∧ Below X.heap.size X w')
  txt : ∀ (X : World) (v : Value), ToksX bd v X → Calls Try.prog 22 #[v] X (fun e w' => e = .returned (.string ⟨(textT bd).toArray⟩) ∧ X = w')
  tsz : (textT bd).length ≤ 50000
  aga : ∀ X, Calls Try.prog 20 #[.string (name ++ ⟨#[40]⟩ ++ z ++ ⟨#[41, 32]⟩ ++ ⟨(textT bd).toArray⟩)] X (TkP (fun w' => GoodPost w' m3) X)
  sam : sameM ⟨name, true, false, U, bd, g, f, t⟩ m3 = true
  ill3 : ∀ X, Calls Try.prog 20 #[.string (name ++ ⟨#[40]⟩ ++ z ++ ⟨#[41, 32, 35, 35, 32]⟩ ++ body ++ ⟨#[120]⟩)] X (TkP Ill5 X)
  ill4 : ∀ X, Calls Try.prog 20 #[.string (name ++ ⟨#[40]⟩ ++ z ++ ⟨#[41, 32, 35, 57, 32]⟩ ++ body)] X (TkP Ill5 X)

theorem bs_list (x : ByteArray) : bsOf x.data.toList = x := ByteArray.ext (by simp)
theorem bs_map (U : List ByteArray) : (U.map fun s => s.data.toList).map bsOf = U := by
  rw [List.map_map]
  exact (List.map_congr_left fun x _ => bs_list x).trans (List.map_id U)

theorem forms_all {name z body : ByteArray} {U : List ByteArray} (h : Fm name.data.toList (U.map fun s => s.data.toList) body.data.toList) (hz : z.data.toList = joinB (U.map fun s => s.data.toList)) (h1 : name.size ≤ 20) (h2 : z.size ≤ 1000) (h3 : body.size ≤ 200) : ∃ g f t bd m2 m3, FB name z body U g f t bd m2 m3 := by
  have hbl : body.data.toList.length = body.size := Array.length_toList
  have hA : (name ++ ⟨#[40]⟩ ++ z ++ ⟨#[41, 32]⟩ ++ body).data.toList = name.data.toList ++ 40 :: (joinB (U.map fun s => s.data.toList) ++ 41 :: 32 :: body.data.toList) := by simp [hz]
  obtain ⟨m, q, p1, p2, p3, p4, p5, p6, p7⟩ := forms_one h hA
  obtain ⟨nm, fn, va, ps, bd, g, f, t⟩ := m
  simp only at p2 p3 p4 p5 p6
  rw [bs_list] at p2
  rw [bs_map] at p5
  have p2 := p2.symm
  subst p2 p3 p4 p5
  have hB : (name ++ ⟨#[32, 40, 32]⟩ ++ z ++ ⟨#[32, 41, 32]⟩ ++ body).data.toList = name.data.toList ++ 32 :: 40 :: 32 :: (joinB (ps.map fun s => s.data.toList) ++ 32 :: 41 :: 32 :: body.data.toList) := by simp [hz]
  obtain ⟨m2, q1, q2, q3⟩ := forms_two h hB
  have hts : (textT bd).length ≤ 50000 := by
    rw [p6]
    have := text_size p7
    simp only [List.length_append, List.length_cons, List.length_nil] at this
    have h4 : (body.data.toList.length + (0 + 1)) * (body.data.toList.length + (0 + 1) + 1) ≤ 201 * 202 := Nat.mul_le_mul (by omega) (by omega)
    omega
  have hC : (name ++ ⟨#[40]⟩ ++ z ++ ⟨#[41, 32]⟩ ++ ⟨(textT bd).toArray⟩).data.toList = name.data.toList ++ 40 :: (joinB (ps.map fun s => s.data.toList) ++ 41 :: 32 :: textT bd) := by simp [hz]
  obtain ⟨m3, r1, r2⟩ := forms_again h (m := ⟨name, true, false, ps, bd, g, f, t⟩) (bs_list name).symm rfl rfl (bs_map ps).symm p6 p7 hC
  have hD : (name ++ ⟨#[40]⟩ ++ z ++ ⟨#[41, 32, 35, 35, 32]⟩ ++ body ++ ⟨#[120]⟩).data.toList = name.data.toList ++ 40 :: (joinB (ps.map fun s => s.data.toList) ++ 41 :: 32 :: 35 :: 35 :: 32 :: (body.data.toList ++ [120])) := by simp [hz]
  have hE : (name ++ ⟨#[40]⟩ ++ z ++ ⟨#[41, 32, 35, 57, 32]⟩ ++ body).data.toList = name.data.toList ++ 40 :: (joinB (ps.map fun s => s.data.toList) ++ 41 :: 32 :: 35 :: 57 :: 32 :: body.data.toList) := by simp [hz]
  have tb := txc_bd h.bd
  have t57 : TxC 57 := .inl (.inr (.inl (by decide)))
  have t120 : ∀ c ∈ ([120] : List UInt8), TxC c := fun c hc => by
    have : c = 120 := by simpa using hc
    subst this
    exact .inl (.inl (by decide))
  have htt : ∀ c ∈ textT bd, TxC c := fun c hc => by
    rw [p6, textT_bare] at hc
    have hc2 : c ∈ moreT q := by
      cases q with
      | nil => exact hc
      | cons t r =>
        rcases List.mem_append.1 hc with hc | hc
        · refine List.mem_append.2 (.inl ?_)
          split
          · exact List.mem_cons_of_mem _ hc
          · exact hc
        · exact List.mem_append.2 (.inr hc)
    rw [moreT_kx p7] at hc2
    rcases tt_mem hc2 with rfl | ⟨u, hu, hc3⟩
    · exact tx32
    · have hm := kt_mem hu c hc3
      rcases List.mem_append.1 hm with hm | hm
      · exact tb c hm
      · have : c = 10 := by simpa using hm
        subst this
        exact absurd hc3 (kt_no10 h.bd hu)
  have ln : name.data.toList.length = name.size := Array.length_toList
  have lz : (joinB (ps.map fun s => s.data.toList)).length = z.size := by rw [← hz]; exact Array.length_toList
  have sz : ∀ {Z : ByteArray} {l : List UInt8}, Z.data.toList = l → Z.size = l.length := fun h => by rw [← h]; exact Array.length_toList.symm
  have hszA : (name ++ ⟨#[40]⟩ ++ z ++ ⟨#[41, 32]⟩ ++ body).size ≤ 100000 := by rw [sz hA]; simp only [List.length_append, List.length_cons]; omega
  have hszB : (name ++ ⟨#[32, 40, 32]⟩ ++ z ++ ⟨#[32, 41, 32]⟩ ++ body).size ≤ 100000 := by rw [sz hB]; simp only [List.length_append, List.length_cons]; omega
  have hszC : (name ++ ⟨#[40]⟩ ++ z ++ ⟨#[41, 32]⟩ ++ ⟨(textT bd).toArray⟩).size ≤ 100000 := by rw [sz hC]; simp only [List.length_append, List.length_cons]; omega
  have hszD : (name ++ ⟨#[40]⟩ ++ z ++ ⟨#[41, 32, 35, 35, 32]⟩ ++ body ++ ⟨#[120]⟩).size ≤ 100000 := by rw [sz hD]; simp only [List.length_append, List.length_cons, List.length_nil]; omega
  have hszE : (name ++ ⟨#[40]⟩ ++ z ++ ⟨#[41, 32, 35, 57, 32]⟩ ++ body).size ≤ 100000 := by rw [sz hE]; simp only [List.length_append, List.length_cons]; omega
  have htB : ∀ c ∈ name.data.toList ++ 32 :: 40 :: 32 :: (joinB (ps.map fun s => s.data.toList) ++ 32 :: 41 :: 32 :: body.data.toList), TxC c :=
    txc_app (txc_bd h.nm.bd) (txc_cons tx32 (txc_cons tx40 (txc_cons tx32 (txc_app (txc_join h.pw) (txc_cons tx32 (txc_cons tx41 (txc_cons tx32 tb)))))))
  refine ⟨g, f, t, bd, m2, m3, good_of hszA hA (h.head (txc_cons tx32 tb)) p1, good_of hszB hB htB q1, q2, q3, fun X => ?_, fun X v hv => text9_any hv (by omega), hts, good_of hszC hC (h.head (txc_cons tx32 htt)) r1, r2, ill_of hszD hD (h.head (txc_cons tx32 (txc_cons tx35 (txc_cons tx35 (txc_cons tx32 (txc_app tb t120)))))) (forms_three h hD), ill_of hszE hE (h.head (txc_cons tx32 (txc_cons tx35 (txc_cons t57 (txc_cons tx32 tb))))) (forms_four h hE)⟩
  have hl := body_len h (s := body) rfl p7
  refine (lexed9_any body X (by omega)).mono fun e w' ⟨a, n, c, he, hn, _, hb⟩ => ⟨a, c, ?_, hb⟩
  rw [he, hn, hl, p6]

end Go.Proofs.Ytmghocfkekggaaa
