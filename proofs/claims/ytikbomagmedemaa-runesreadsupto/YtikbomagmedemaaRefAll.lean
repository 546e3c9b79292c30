/- The document's own Rune at every place; its Points, Valid and Source. -/
import Derived.Test.YtikbomagmedemaaRefR1
import Derived.Test.YtikbomagmedemaaRefR2
import Derived.Test.YtikbomagmedemaaRefR3
import Derived.Test.YtikbomagmedemaaRefR4
namespace Go.Proofs.Ytikbomagmedemaa
open Go.RowKit Go.Lib

theorem rrune_in (s : ByteArray) (p : Nat) (w : World) (hs : s.size ≤ 1125899906842624) (hp : p < s.size) :
    Calls Try.prog 10 #[.string s, .int .i64 p] w fun e w' => e = .returned (.tuple #[.int .i64 (runeS s p).1, .int .i64 (runeS s p).2]) ∧ Below w.heap.size w w' := by
  rw [← refRune_eq s p hp]
  by_cases h1 : gB s p < 128
  · exact rrune_r1 s p w hs hp h1
  · by_cases h2 : gB s p < 224
    · exact rrune_r2 s p w hs hp ⟨by omega, h2⟩
    · by_cases h3 : gB s p < 240
      · exact rrune_r3 s p w hs hp ⟨by omega, h3⟩
      · exact rrune_r4 s p w hs hp (by omega)

end Go.Proofs.Ytikbomagmedemaa
