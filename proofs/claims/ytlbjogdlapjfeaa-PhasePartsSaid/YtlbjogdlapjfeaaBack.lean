/-
  Back of the project, walked: it begins a little ahead of what is asked for, and ends at what is behind it.
-/
import Derived.Test.YtlbjogdlapjfeaaChars
import Derived.Test.YtlbjogdlapjfeaaRBack
namespace Go.Proofs.Ytlbjogdlapjfeaa
open Go.RowKit

theorem ahead_any (a : Int) (w : World) (ha : a ≤ 9223372036854775807) : Calls Try.prog 19 #[.int .i64 a] w fun e w' => e = .returned (.int .i64 (aheadN a : Nat)) ∧ w = w' := by
  obtain ⟨m, hm⟩ : ∃ m : Int, max a 3 = m := ⟨_, rfl⟩
  have h1 : 3 ≤ m := by omega
  have h2 : m ≤ 9223372036854775807 := by omega
  have he : ((aheadN a : Nat) : Int) = m - 3 := by
    unfold aheadN
    rw [hm]
    omega
  have HE := Lib.hid he
  clear he
  go_enter Try.func19, Try.ntmps19
  go_wp2
  go_ret
  exact ⟨by rw [HE.out]; rfl, rfl⟩

theorem src_one2 (w : World) (o : Obj) (u : Value) (e : TypeId) : Src ((w.alloc o).alloc (.cells #[u] e)) (.slice (some ⟨w.heap.size + 1, 0, none⟩) 1 1) 1 1 [u] := by
  have h := src_one (w.alloc o) u e
  rw [show (w.alloc o).heap.size = w.heap.size + 1 from by simp] at h
  exact h

def BRel (W : World) (l : List UInt8) (a b : Int) (o i : Value) (w : World) : Prop :=
  ∃ (k : Nat) (bs : List UInt8) (ad : Option Addr) (n cap : Nat), i = .int .i64 (k : Int) ∧ bs.length ≤ k ∧ bs.length ≤ l.length ∧ (k : Int) ≤ 9223372036854775807 ∧ o = .slice ad n cap ∧ n = bs.length ∧ bs ++ bk l a b k = backL l a b ∧ BRow W o bs w

theorem brel_in {W : World} {l : List UInt8} {a b : Int} {k : Nat} {bs : List UInt8} {w : World} {ad : Option Addr} {cap : Nat} {r : Rn} (hl : l.length ≤ 100000) (hk : k < l.length) (hLk : bs.length ≤ k) (ho : tk l k = (r, true)) (hw : within a b r = true) (hL : bs ++ bk l a b k = backL l a b) (hU : BRow W (.slice ad (bs.length + 1) cap) (bs ++ [r.c]) w) :
    BRel W l a b (.slice ad (bs.length + 1) cap) (.int .i64 (r.t : Int)) w := by
  have h1 : k < r.t ∧ r.t ≤ k + 4 ∧ (k < l.length → r.t ≤ l.length) := by
    have := tk_t l k
    rw [ho] at this
    exact this
  have h2 := bk_take (a := a) (b := b) hk (by rw [ho]) (by rw [ho]; exact hw)
  rw [ho] at h2
  refine ⟨r.t, bs ++ [r.c], ad, bs.length + 1, cap, rfl, by simp; omega, by simp; omega, by omega, rfl, by simp, ?_, hU⟩
  rw [← hL, h2, List.append_assoc]
  rfl
theorem brel_next {W : World} {l : List UInt8} {a b : Int} {k : Nat} {bs : List UInt8} {w : World} {ad : Option Addr} {cap : Nat} {r : Rn} {st : Bool} (hl : l.length ≤ 100000) (hk : k < l.length) (hLk : bs.length ≤ k) (ho : tk l k = (r, st)) (hw : st = false ∨ within a b r = false) (hL : bs ++ bk l a b k = backL l a b) (hU : BRow W (.slice ad bs.length cap) bs w) :
    BRel W l a b (.slice ad bs.length cap) (.int .i64 (r.t : Int)) w := by
  have h1 : k < r.t ∧ r.t ≤ k + 4 ∧ (k < l.length → r.t ≤ l.length) := by
    have := tk_t l k
    rw [ho] at this
    exact this
  have h2 : bk l a b k = bk l a b r.t := by
    have e : (tk l k).1.t = r.t := by rw [ho]
    rw [← e]
    rcases hw with h | h
    · exact bk_skip hk (by rw [ho]; exact h)
    · exact bk_out hk (by rw [ho]; exact h)
  exact ⟨r.t, bs, ad, bs.length, cap, rfl, by omega, by omega, by omega, rfl, rfl, by rw [← h2]; exact hL, hU⟩

theorem back_past {l : List UInt8} {a b : Int} {k : Nat} {bs : List UInt8} {r : Rn} {st : Bool} (hk : k < l.length) (ho : tk l k = (r, st)) (hb : b < (r.t : Int)) (hL : bs ++ bk l a b k = backL l a b) : bs = backL l a b := by
  rw [bk_past hk (by rw [ho]; exact hb), List.append_nil] at hL
  exact hL

theorem BRow.over {W w w' : World} {v : Value} {bs : List UInt8} (h : BRow W v bs w) (b : Below w.heap.size w w') : BRow W v bs w' := Up.over h b
theorem BRow.alloc {W w : World} {v : Value} {bs : List UInt8} (h : BRow W v bs w) (o : Obj) : BRow W v bs (w.alloc o) := Up.alloc h o

set_option maxRecDepth 100000 in
set_option maxHeartbeats 1600000 in
theorem back_any (s : ByteArray) (a b : Int) (w : World) (hs : s.size ≤ 100000) (ha : a ≤ 9223372036854775807) : Calls Try.prog 13 #[.string s, .int .i64 a, .int .i64 b] w (TextPost w (backL s.data.toList a b)) := by
  obtain ⟨i0, hi, hz0, hz1, hz2⟩ := info_parts Try.infoByte
  have HL := Lib.hid (len_byte s)
  have hll : s.data.toList.length ≤ 100000 := by rw [len_byte]; exact hs
  have hah : (aheadN a : Int) ≤ 9223372036854775807 := by unfold aheadN; omega
  have HAH := Lib.hid (bk_ahead s.data.toList a b)
  have R0 : Up w 5 1 (.slice none 0 0) 0 [] w := up_nil w _ 1
  have HR0 := Lib.hid R0
  clear R0
  go_enter Try.func13, Try.ntmps13
  go_wp2_with (go_at_call 19; (with_reducible refine (ahead_any a _ ha).mono ?_); rintro e w1 ⟨rfl, rfl⟩)
  go_loopw [7, 8] (fun o i w' => BRel w s.data.toList a b o i w') (fun _ i _ => s.size - (intOf i).toNat)
  case atStart => exact ⟨aheadN a, [], none, 0, 0, rfl, Nat.zero_le _, Nat.zero_le _, hah, rfl, rfl, HAH.out, HR0.out⟩
  case round =>
    obtain ⟨k, bs, ad, n, cap, rfl, hLk, hLl, hki9, rfl, rfl, hL, hU⟩ := hrel
    rw [HL.out] at hLl
    have HU := Lib.hid hU
    have HLL := Lib.hid hL
    clear hU hL
    by_cases hlt : k < s.size
    · have hki : (k : Int) < (s.size : Int) := by omega
      obtain ⟨r, st, hr⟩ : ∃ r st, tk s.data.toList k = (r, st) := ⟨_, _, rfl⟩
      have htk := take_any s k
      rw [hr] at htk
      have HT := Lib.hid htk
      have hk2 : k < s.data.toList.length := by rw [HL.out]; exact hlt
      have ht : k < r.t := by
        have := tk_t s.data.toList k
        rw [hr] at this
        exact this.1
      have HR := Lib.hid hr
      clear htk hr
      by_cases hb : b < (r.t : Int)
      · have ht2 := fun w' (h : BRow w (.slice ad bs.length cap) bs w') => brow_text h
        have HT2 := Lib.hid ht2
        clear ht2
        have hbs := back_past hk2 HR.out hb HLL.out
        have HBS := Lib.hid hbs
        clear hbs
        go_wp2_with (go_at_call 16; (with_reducible refine (HT.out _ hs hlt).mono ?_); rintro e w1 ⟨rfl, b1⟩; have U1 := Lib.hid (HU.out.over b1); have ht3 := HT2.out _ (U1.out.alloc (.cells #[.int .u8 (r.c.toNat : Int), .int .i64 (r.f : Int), .int .i64 (r.t : Int)] 33)); clear b1)
        go_ret
        rw [← HBS.out]
        exact ⟨rfl, (U1.out.alloc _).2⟩
      · have hb' : (r.t : Int) ≤ b := by omega
        cases st with
        | true =>
          by_cases h1 : a ≤ (r.f : Int)
          · go_wp2_with (first
              | (go_at_call 16; (with_reducible refine (HT.out _ hs hlt).mono ?_); rintro e w1 ⟨rfl, b1⟩; have U1 := Lib.hid (HU.out.over b1); clear b1)
              | (at_builtin; refine wpList_append_ex rfl (.tmp 34) (.tmp 37) 36 rfl _ (app_keep Try.underlying36 hi hz0 hz1 hz2 rfl (by decide) (by decide) U1.out (src_one2 _ _ _ _) byte_one (by omega)) ?_; rintro v2 w2 ⟨hu2, hp2⟩; obtain ⟨a2, cap2, rfl, -, -, -⟩ := row_form hu2.1; have U2 := Lib.hid (BRow.push r.c hu2 rfl); have e2 := heap_cells hp2; clear hu2 hp2))
            go_roundw
            case rel => exact brel_in hll hk2 hLk HR.out (within_in h1 hb') HLL.out U2.out
            case measure => simp [intOf]; omega
          · go_wp2_with (go_at_call 16; (with_reducible refine (HT.out _ hs hlt).mono ?_); rintro e w1 ⟨rfl, b1⟩; have U1 := Lib.hid (HU.out.over b1); clear b1)
            go_roundw
            case rel => exact brel_next hll hk2 hLk HR.out (.inr (within_a (by omega))) HLL.out (U1.out.alloc _)
            case measure => simp [intOf]; omega
        | false =>
          go_wp2_with (go_at_call 16; (with_reducible refine (HT.out _ hs hlt).mono ?_); rintro e w1 ⟨rfl, b1⟩; have U1 := Lib.hid (HU.out.over b1); clear b1)
          go_roundw
          case rel => exact brel_next hll hk2 hLk HR.out (.inl rfl) HLL.out (U1.out.alloc _)
          case measure => simp [intOf]; omega
    · have hki : ¬ (k : Int) < (s.size : Int) := by omega
      have ht := brow_text HU.out
      go_wp2
      go_ret
      have h3 := HLL.out
      rw [bk_end (by rw [HL.out]; omega), List.append_nil] at h3
      rw [← h3]
      exact ⟨rfl, HU.out.2⟩

end Go.Proofs.Ytlbjogdlapjfeaa
