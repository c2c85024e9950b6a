/-
  TwiceSame's walk, and what view.Check answers.
-/
import Derived.Test.YtdpiijndnefahaaVtwice
import Derived.Test.YtdpiijndnefahaaVcon1
