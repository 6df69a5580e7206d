/-
  Texts of the proof, put together: ReX.
-/
import Derived.Test.YtpnboieppkjfnaaGreatG50
import Derived.Test.YtpnboieppkjfnaaGreatG49

/-
  RelexEdits, over edits that came in.
-/
namespace Go.Proofs.YtpnboieppkjfnaaGreat
open Go.RowKit

theorem law_edits_in {a : Option Addr} {cap : Nat} (s : ByteArray) (es : List Ed6) (W : World) (hs : s.size ≤ maxLen) (hE : EdsAt a es W) (hn : es.length ≤ 9223372036854775807 ∧ es.length ≤ cap) (hx : ∀ e ∈ es, e.x.size ≤ 9223372036854775807) : Calls Tryz.prog 3 #[.string s, .slice a es.length cap] W fun e w' => e = .returned (.bool true) ∧ Below W.heap.size W w' :=
  law_edits s a es.length cap es W hs hn.1 hn.2 rfl hE hx

end Go.Proofs.YtpnboieppkjfnaaGreat
