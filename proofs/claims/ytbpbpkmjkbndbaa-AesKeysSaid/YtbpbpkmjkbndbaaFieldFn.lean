/- The field with 256 elements as plain functions of bytes: products, inverses, powers, signs; and its laws. No conditions; nothing is claimed of the program here. -/
import Derived.Test.YtbpbpkmjkbndbaaBase
namespace Go.Proofs.Ytbpbpkmjkbndbaa
set_option linter.unusedVariables false

/-- The product before the reduction, of the first k bits of b. -/
def mulUp (a b : Nat) : Nat → Nat | 0 => 0 | k + 1 => if b / 2 ^ k % 2 = 1 then mulUp a b k ^^^ (a * 2 ^ k) else mulUp a b k
/-- The reduction, from bit 7 + k down. -/
def mulDown (n : Nat) : Nat → Nat | 0 => n | k + 1 => mulDown (if n / 2 ^ (8 + k) % 2 = 1 then n ^^^ (283 * 2 ^ k) else n) k
/-- The product of bytes. -/
def mulB (a b : UInt8) : UInt8 := UInt8.ofNat (mulDown (mulUp a.toNat b.toNat 8) 7)

/-- The first byte from k on whose product with a is 1; 0 where there is none (m: how many are still to be tried). -/
def invFrom (a : UInt8) (k : Nat) : Nat → UInt8 | 0 => 0 | m + 1 => if mulB a (UInt8.ofNat k) = 1 then UInt8.ofNat k else invFrom a (k + 1) m
/-- The inverse. -/
def invB (a : UInt8) : UInt8 := invFrom a 0 256

/-- a, multiplied with itself m times. -/
def powN (a : UInt8) : Nat → UInt8 | 0 => 1 | m + 1 => mulB (powN a m) a
/-- The reference's power. -/
def powB (a : UInt8) (n : Nat) : UInt8 := if n = 0 then 1 else if a = 0 then 0 else powN a (n % 255)

/-- How many of the bits that make bit k of a sign are set, behind m of the four further ones. -/
def signN (b k : Nat) : Nat → Nat | 0 => 99 / 2 ^ k % 2 + b / 2 ^ k % 2 | m + 1 => signN b k m + b / 2 ^ ((k + (4 + m)) % 8) % 2
/-- The first k bits of a sign. -/
def signUp (b : Nat) : Nat → Nat | 0 => 0 | k + 1 => signUp b k + signN b k 4 % 2 * 2 ^ k
/-- The sign that an inverse makes. -/
def signB (x : UInt8) : UInt8 := UInt8.ofNat (signUp x.toNat 8)
/-- The S-box value of a byte. -/
def subB (x : UInt8) : UInt8 := signB (invB x)
/-- The first byte from k on whose sign is a; 0 where there is none. -/
def unsubFrom (a : UInt8) (k : Nat) : Nat → UInt8 | 0 => 0 | m + 1 => if subB (UInt8.ofNat k) = a then UInt8.ofNat k else unsubFrom a (k + 1) m
/-- The byte with this sign. -/
def unsubB (a : UInt8) : UInt8 := unsubFrom a 0 256

end Go.Proofs.Ytbpbpkmjkbndbaa
