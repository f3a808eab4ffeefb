/-
  No strings.Builder is reached here: nothing is laid.
-/
import Derived.Test.YtpbhbgoaaephgaaProg
