import Derived.Test.YthppjgdnibfefaaGreatOctAll
set_option linter.all false
set_option maxRecDepth 100000
set_option maxHeartbeats 32000000
namespace Go.Proofs.YthppjgdnibfefaaGreat
open Go.RowKit
def lim:Nat→Nat | 0=>64 | 1=>16384 | 2=>1073741824 | _=>4611686018427387904
def sz:Nat→Nat | 0=>1 | 1=>2 | 2=>4 | 3=>8 | _=>0
theorem DsJ:∀ (k n:Nat),numL (putL n k)+256 ^ k*AfQ n k=n
 | 0,n=>by simp [putL,numL,AfQ]
 | k+1,n=>by
  have ih:=DsJ k (n / 256);rw [putL,AkZ,←AzK];have e:(UInt8.ofNat n).toNat=n % 256:=by simp
  rw [e,Nat.pow_succ];have h2:256 ^ k*256*AfQ (n / 256) k=256*(256 ^ k*AfQ (n / 256) k):=by rw [Nat.mul_comm (256 ^ k) 256,Nat.mul_assoc]
  rw [h2];omega
open Go.RowKit
def tkK:YB→Nat | []=>0 | x::_=>x.toNat / 64
def tkOk (l:YB):Bool:=decide (0<l.length∧sz (tkK l)≤l.length)
def tkV (l:YB):Nat:=if tkOk l then numL (l.take (sz (tkK l))) % lim (tkK l) else 0
def tkN (l:YB):Nat:=if tkOk l then sz (tkK l) else 0
def tkE (l:YB):Int:=if tkOk l then 0 else 12
section
variable {w w':World} {B B' n:Nat} {A:YA} {l:List Nat}
end
