/-
  Nothing is laid.
-/
import Derived.Test.YtpfeacdhplbblaaGreatProg
