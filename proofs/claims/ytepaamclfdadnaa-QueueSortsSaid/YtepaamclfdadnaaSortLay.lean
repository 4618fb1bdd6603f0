/-
  Nothing of terms is sorted here.
-/
import Derived.Test.YtepaamclfdadnaaProg
