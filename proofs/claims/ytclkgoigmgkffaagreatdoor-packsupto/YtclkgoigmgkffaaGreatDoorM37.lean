/-
  Texts Aj.
-/
import Derived.Test.YtclkgoigmgkffaaGreatDoorM35
import Derived.Test.YtclkgoigmgkffaaGreatDoorM25
set_option linter.unusedSimpArgs false
set_option linter.unusedVariables false
set_option maxRecDepth 100000
set_option maxHeartbeats 40000000
namespace Go.Proofs.YtclkgoigmgkffaaGreatDoor
open Go.RowKit
open Wire Flow Mach
def unpTag (tag:Nat→Nat) (n:Nat) (tv pv fv:Value) (n11 n13:Nat):Nat→Nat:=fun k=>if k<n then tag k else if tv.ownBlock=some k then 12+2*n11 else if pv.ownBlock=some k then 12+2*(n11+1) else if fv.ownBlock=some k then 13+2*n13 else 6
structure Mks (w0 W:World) (tag:Nat→Nat) (tv pv fv tu pu fu:Value) (m:Mo) (n11 n13:Nat):Prop where
 t:RowT w0.heap.size W tag (12+2*n11) 9 1 tv m.texts.length (m.texts.map .string)
 p:RowT w0.heap.size W tag (12+2*(n11+1)) 9 1 pv m.pats.length (m.pats.map .string)
 f:RowT w0.heap.size W tag (13+2*n13) 65 3 fv m.fns.length (m.fns.flatMap fnC)
 ut:LsAt W tu m.texts.length 1 (m.texts.map .string)∧Tg tag tu 6
 up:LsAt W pu m.pats.length 1 (m.pats.map .string)∧Tg tag pu 6
 uf:LsAt W fu m.fns.length 3 (m.fns.flatMap fnC)∧Tg tag fu 6
theorem Mks.step {w0 W W':World}{tag tag':Nat→Nat}{tv pv fv tu pu fu:Value}{m:Mo}{n11 n13:Nat} (h:Mks w0 W tag tv pv fv tu pu fu m n11 n13) (hc:Chg tag [0,4,5,10,11] W W') (hr:∀ k,k<W.heap.size→tag' k=tag k):Mks w0 W' tag' tv pv fv tu pu fu m n11 n13:=
 ⟨h.t.step hc (by simp;omega) hr,h.p.step hc (by simp;omega) hr,h.f.step hc (by simp;omega) hr,
  ⟨h.ut.1.chg h.ut.2 hc (by simp),h.ut.2.re h.ut.1.lt (fun k hk e=>by rw[hr k hk];exact e)⟩,
  ⟨h.up.1.chg h.up.2 hc (by simp),h.up.2.re h.up.1.lt (fun k hk e=>by rw[hr k hk];exact e)⟩,
  ⟨h.uf.1.chg h.uf.2 hc (by simp),h.uf.2.re h.uf.1.lt (fun k hk e=>by rw[hr k hk];exact e)⟩⟩
theorem mks_start {w0 W W2 W6:World}{tag:Nat→Nat}{tv pv fv tu pu fu:Value}{m:Mo}{n11 n13 B:Nat} (h0:w0.heap.size≤W.heap.size) (R:MoR W.heap.size W2 tv pv fv m) (f26:Fr [] W2 W6) (D:MoR B W6 tu pu fu m) (hB:W2.heap.size≤B) (hW:W.heap.size≤W2.heap.size) :
  Mks w0 W6 (unpTag tag W.heap.size tv pv fv n11 n13) tv pv fv tu pu fu m n11 n13∧(∀ k,k<W.heap.size→unpTag tag W.heap.size tv pv fv n11 n13 k=tag k)∧∀ k,W2.heap.size≤k→unpTag tag W.heap.size tv pv fv n11 n13 k=6:=by
 have hnew:∀ k,W2.heap.size≤k→unpTag tag W.heap.size tv pv fv n11 n13 k=6:=fun k hk=>by
  unfold unpTag
  rw[if_neg (by omega),if_neg (fun e=>by have:=(R.t.lt k e).2;omega),if_neg (fun e=>by have:=(R.p.lt k e).2;omega),if_neg (fun e=>by have:=(R.f.lt k e).2;omega)]
 have t6:∀ v,(∀ g,v.ownBlock=some g→B≤g)→Tg (unpTag tag W.heap.size tv pv fv n11 n13) v 6:=fun v hv g hg=>hnew g (by have:=hv g hg;omega)
 refine⟨⟨⟨own_base (own_fr R.t f26 (by simp)) h0,fun g hg=>?_⟩,⟨own_base (own_fr R.p f26 (by simp)) h0,fun g hg=>?_⟩,⟨own_base (own_fr R.f f26 (by simp)) h0,fun g hg=>?_⟩,⟨LsAt.of_own D.t,t6 _ fun g hg=>(D.t.lt g hg).1⟩,⟨LsAt.of_own D.p,t6 _ fun g hg=>(D.p.lt g hg).1⟩,⟨LsAt.of_own D.f,t6 _ fun g hg=>(D.f.lt g hg).1⟩⟩,fun k hk=>by unfold unpTag;rw[if_pos hk],hnew⟩
 ·have:=(R.t.lt g hg).1
  unfold unpTag
  rw[if_neg (by omega),if_pos hg]
 ·have:=(R.p.lt g hg).1
  unfold unpTag
  rw[if_neg (by omega),if_neg (fun e=>R.tp g e hg),if_pos hg]
 ·have:=(R.f.lt g hg).1
  unfold unpTag
  rw[if_neg (by omega),if_neg (fun e=>own_far R.t R.f (by decide) g e hg),if_neg (fun e=>own_far R.p R.f (by decide) g e hg),if_pos hg]
theorem KpT.refl {w0 W:World}{b:Nat}{tag:Nat→Nat}{c:Nat→Value}{ms:Value}{bs:ByteArray}{N:Nat→Nat}{X:Nat→List Value}{bk fk:List Bk} (H:Hst w0 W b tag c ms bs N X bk fk):KpT w0 W W b tag tag ms bs N X bk fk 0 0:=
 ⟨⟨c,N,X,H,rfl,rfl,rfl,rfl⟩,Chg.refl _ _ _,fun _ _=>rfl⟩
end Go.Proofs.YtclkgoigmgkffaaGreatDoor
