/-
  Short names of laws of the library.
-/
import Derived.Test.YtclkgoigmgkffaaGreatDoorMA
namespace Go.Proofs.YtclkgoigmgkffaaGreatDoor
theorem Y2 {α:Type}{a b:α}{l:List α}:(a :: l).set 0 b=b :: l:=rfl
theorem Y3 {α:Type}{a b:α}{l:List α}{n:Nat}:(a :: l).set (n+1) b=a :: l.set n b:=rfl
theorem Y4 {α:Type}{l:List α}{i:Nat}(h:i<l.toArray.size):l.toArray[i]=l[i]'(by simpa using h):=rfl
theorem Y5 {α:Type}(a:α)(l:List α)(i:Nat)(h:i+1<(a :: l).length):(a :: l)[i+1]=l[i]'(Nat.lt_of_succ_lt_succ h):=rfl
theorem Y6 {α:Type}(a:α)(l:List α)(h:0<(a :: l).length):(a :: l)[0]=a:=rfl
end Go.Proofs.YtclkgoigmgkffaaGreatDoor
