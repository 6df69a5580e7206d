/-
  Back of the project, walked: it begins a little ahead of what is asked for, and ends at what is behind it.
-/
import Derived.Test.YtpnboieppkjfnaaChars
import Derived.Test.YtpnboieppkjfnaaRBack
namespace Go.Proofs.Ytpnboieppkjfnaa
open Go.RowKit

theorem src_one2 (w : World) (o : Obj) (u : Value) (e : TypeId) : Src ((w.alloc o).alloc (.cells #[u] e)) (.slice (some ⟨w.heap.size + 1, 0, none⟩) 1 1) 1 1 [u] := by
  have h := src_one (w.alloc o) u e
  rw [show (w.alloc o).heap.size = w.heap.size + 1 from by simp] at h
  exact h

def BRel (W : World) (l : List UInt8) (a b : Int) (o i : Value) (w : World) : Prop :=
  ∃ (k : Nat) (bs : List UInt8) (ad : Option Addr) (n cap : Nat), i = .int .i64 (k : Int) ∧ bs.length ≤ k ∧ bs.length ≤ l.length ∧ (k : Int) ≤ 9223372036854775807 ∧ o = .slice ad n cap ∧ n = bs.length ∧ bs ++ bk l a b k = backL l a b ∧ BRow W o bs w

theorem brel_in {W : World} {l : List UInt8} {a b : Int} {k : Nat} {bs : List UInt8} {w : World} {ad : Option Addr} {cap : Nat} {r : Rn} (hl : l.length ≤ 100000) (hk : k < l.length) (hLk : bs.length ≤ k) (ho : tk l k = (r, true)) (hw : within a b r = true) (hL : bs ++ bk l a b k = backL l a b) (hU : BRow W (.slice ad (bs.length + 1) cap) (bs ++ [r.c]) w) :
    BRel W l a b (.slice ad (bs.length + 1) cap) (.int .i64 (r.t : Int)) w := by
  have h1 : k < r.t ∧ r.t ≤ k + 4 ∧ (k < l.length → r.t ≤ l.length) := by
    have := tk_t l k
    rw [ho] at this
    exact this
  have h2 := bk_take (a := a) (b := b) hk (by rw [ho]) (by rw [ho]; exact hw)
  rw [ho] at h2
  refine ⟨r.t, bs ++ [r.c], ad, bs.length + 1, cap, rfl, by simp; omega, by simp; omega, by omega, rfl, by simp, ?_, hU⟩
  rw [← hL, h2, List.append_assoc]
  rfl
theorem brel_next {W : World} {l : List UInt8} {a b : Int} {k : Nat} {bs : List UInt8} {w : World} {ad : Option Addr} {cap : Nat} {r : Rn} {st : Bool} (hl : l.length ≤ 100000) (hk : k < l.length) (hLk : bs.length ≤ k) (ho : tk l k = (r, st)) (hw : st = false ∨ within a b r = false) (hL : bs ++ bk l a b k = backL l a b) (hU : BRow W (.slice ad bs.length cap) bs w) :
    BRel W l a b (.slice ad bs.length cap) (.int .i64 (r.t : Int)) w := by
  have h1 : k < r.t ∧ r.t ≤ k + 4 ∧ (k < l.length → r.t ≤ l.length) := by
    have := tk_t l k
    rw [ho] at this
    exact this
  have h2 : bk l a b k = bk l a b r.t := by
    have e : (tk l k).1.t = r.t := by rw [ho]
    rw [← e]
    rcases hw with h | h
    · exact bk_skip hk (by rw [ho]; exact h)
    · exact bk_out hk (by rw [ho]; exact h)
  exact ⟨r.t, bs, ad, bs.length, cap, rfl, by omega, by omega, by omega, rfl, rfl, by rw [← h2]; exact hL, hU⟩

theorem back_past {l : List UInt8} {a b : Int} {k : Nat} {bs : List UInt8} {r : Rn} {st : Bool} (hk : k < l.length) (ho : tk l k = (r, st)) (hb : b < (r.t : Int)) (hL : bs ++ bk l a b k = backL l a b) : bs = backL l a b := by
  rw [bk_past hk (by rw [ho]; exact hb), List.append_nil] at hL
  exact hL

theorem BRow.over {W w w' : World} {v : Value} {bs : List UInt8} (h : BRow W v bs w) (b : Below w.heap.size w w') : BRow W v bs w' := Up.over h b
theorem BRow.alloc {W w : World} {v : Value} {bs : List UInt8} (h : BRow W v bs w) (o : Obj) : BRow W v bs (w.alloc o) := Up.alloc h o

end Go.Proofs.Ytpnboieppkjfnaa
