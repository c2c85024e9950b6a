/-
  TwiceSame's walk, and what view.Check answers.
-/
import Derived.Test.YtimnfgfomlegpadVtwice
import Derived.Test.YtimnfgfomlegpadVcon1
