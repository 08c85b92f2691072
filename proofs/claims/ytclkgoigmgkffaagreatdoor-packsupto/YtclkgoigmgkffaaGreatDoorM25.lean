/-
  Texts Gn Ir Ob Jo Jp Ka Kb Kc Kd Ke.
-/
import Derived.Maps.AppendAt
import Derived.Deep.RegionHeld
import Derived.Test.YtclkgoigmgkffaaGreatDoorM24
import Derived.Test.YtclkgoigmgkffaaGreatDoorM19
import Derived.Test.YtclkgoigmgkffaaGreatDoorM23
set_option linter.unusedSimpArgs false
set_option linter.unusedVariables false
set_option maxRecDepth 100000
set_option maxHeartbeats 40000000
namespace Go.Proofs.YtclkgoigmgkffaaGreatDoor
open Go.RowKit
open Wire
theorem unpackRf_long (b:ByteArray) (w:World) (hm:b.size≤maxLen) (hl:40000<b.size):Calls Tryz.prog 23 #[.string b] w (UnpackPost b w):=by
 have hL:=bl_length b
 have hU:unpack ipF (bl b)=.inl (1,0):=by unfold unpack;rw[if_pos (by omega)]
 have HU:Hid _:=hU
 have g1:(b.size:Int)>40000:=by omega
 unfold maxLen at hm
 have F0:Fr [] w ((w.alloc (.cells #[.slice none 0 0,.slice none 0 0,.int .i64 0,.int .i64 0,.slice none 0 0] 30)).alloc (.cells #[.slice none 0 0,.slice none 0 0,.int .i64 0,.int .i64 0,.slice none 0 0] 30)):=((Fr.refl [] w).alloc _).alloc _
 have hm0:((w.alloc (.cells #[.slice none 0 0,.slice none 0 0,.int .i64 0,.int .i64 0,.slice none 0 0] 30)).alloc (.cells #[.slice none 0 0,.slice none 0 0,.int .i64 0,.int .i64 0,.slice none 0 0] 30)).heap[w.heap.size+1]?=some (.cells #[.slice none 0 0,.slice none 0 0,.int .i64 0,.int .i64 0,.slice none 0 0] 30):=by
  have:=World.alloc_heap_new (w.alloc (.cells #[.slice none 0 0,.slice none 0 0,.int .i64 0,.int .i64 0,.slice none 0 0] 30)) (.cells #[.slice none 0 0,.slice none 0 0,.int .i64 0,.int .i64 0,.slice none 0 0] 30)
  rw[World.size_alloc] at this
  exact this
 have hres:((w.alloc (.cells #[.slice none 0 0,.slice none 0 0,.int .i64 0,.int .i64 0,.slice none 0 0] 30)).alloc (.cells #[.slice none 0 0,.slice none 0 0,.int .i64 0,.int .i64 0,.slice none 0 0] 30)).heap[w.heap.size]?=some (.cells #[.slice none 0 0,.slice none 0 0,.int .i64 0,.int .i64 0,.slice none 0 0] 30):=by
  rw[Below.heap_alloc _ _ _ (by simp),World.alloc_heap_new]
 clear hU
 go_enter Tryz.func23,Tryz.ntmps23
 obtain⟨U5,hU5⟩:∃ U5,((w.alloc (.cells #[.slice none 0 0,.slice none 0 0,.int .i64 0,.int .i64 0,.slice none 0 0] 30)).alloc (.cells #[.slice none 0 0,.slice none 0 0,.int .i64 0,.int .i64 0,.slice none 0 0] 30))=U5:=⟨_,rfl⟩
 have r0:U5.cell? ⟨w.heap.size,0,none⟩=some (.slice none 0 0):=by rw[hU5] at hres;unfold World.cell?;rw[hres];rfl
 have r1:U5.cell? ⟨w.heap.size,1,none⟩=some (.slice none 0 0):=by rw[hU5] at hres;unfold World.cell?;rw[hres];rfl
 have r2:U5.cell? ⟨w.heap.size,2,none⟩=some (.int .i64 0):=by rw[hU5] at hres;unfold World.cell?;rw[hres];rfl
 have r3:U5.cell? ⟨w.heap.size,3,none⟩=some (.int .i64 0):=by rw[hU5] at hres;unfold World.cell?;rw[hres];rfl
 have r4:U5.cell? ⟨w.heap.size,4,none⟩=some (.slice none 0 0):=by rw[hU5] at hres;unfold World.cell?;rw[hres];rfl
 rw[← hU5] at r0 r1 r2 r3 r4
 clear hU5 hres hm0
 go_wp2
 refine bodyPost_ret (v:=.tuple #[.agg #[.slice none 0 0,.slice none 0 0,.int .i64 0,.int .i64 0,.slice none 0 0],.int .i64 0,.int .i64 1]) (by simp[results,Tryz.results23,go_sem,r0,r1,r2,r3,r4]) rfl ?_
 exact⟨F0,.inl ⟨1,0,HU.out,by omega,by omega,by omega,rfl⟩⟩
theorem unpackRf_any (b:ByteArray) (w:World) (hm:b.size≤maxLen):Calls Tryz.prog 23 #[.string b] w (UnpackPost b w):=by
 by_cases h:b.size≤40000
 ·exact unpackRf_short b w h
 ·exact unpackRf_long b w hm (by omega)
open Wire Flow Mach
theorem unpackM_any (b:ByteArray) (w:World) (hm:b.size≤maxLen) (hT:Tab w):Calls Tryz.prog 19 #[.string b] w (UnpackPost b w):=by
 by_cases h:b.size≤40000
 ·exact unpackM_short b w h hT
 ·exact unpackM_long b w hm (by omega)
theorem unpack_any (b:ByteArray) (w:World) (hm:b.size≤maxLen) (hT:Tab w):Calls Tryz.prog 78 #[.string b] w (UnpackPost b w):=by
 have F0:Fr [] w (w.alloc (.cells #[.slice none 0 0,.slice none 0 0,.int .i64 0,.int .i64 0,.slice none 0 0] 30)):=(Fr.refl [] w).alloc _
 have hnew:=World.alloc_heap_new w (.cells #[.slice none 0 0,.slice none 0 0,.int .i64 0,.int .i64 0,.slice none 0 0] 30)
 have hlt:w.heap.size<(w.alloc (.cells #[.slice none 0 0,.slice none 0 0,.int .i64 0,.int .i64 0,.slice none 0 0] 30)).heap.size:=by simp
 have hsz:(w.alloc (.cells #[.slice none 0 0,.slice none 0 0,.int .i64 0,.int .i64 0,.slice none 0 0] 30)).heap.size=w.heap.size+1:=by simp
 have hu:=unpackM_any b _ hm (hT.fr F0 (by simp))
 have HU:Hid _:=hu
 unfold maxLen at hm
 clear hu
 go_enter Tryz.func78,Tryz.ntmps78
 go_wp2_with fail
 generalize w.alloc (.cells #[.slice none 0 0,.slice none 0 0,.int .i64 0,.int .i64 0,.slice none 0 0] 30)=W at *
 refine Calls.mono HU.out ?_
 rintro ee W1 ⟨F1,hcase⟩
 have hres:W1.heap[w.heap.size]?=some (.cells #[.slice none 0 0,.slice none 0 0,.int .i64 0,.int .i64 0,.slice none 0 0] 30):=by
  rw[F1.block _ hlt (by simp),hnew]
 have r0:W1.cell? ⟨w.heap.size,0,none⟩=some (.slice none 0 0):=by unfold World.cell?;rw[hres];rfl
 have r1:W1.cell? ⟨w.heap.size,1,none⟩=some (.slice none 0 0):=by unfold World.cell?;rw[hres];rfl
 have r2:W1.cell? ⟨w.heap.size,2,none⟩=some (.int .i64 0):=by unfold World.cell?;rw[hres];rfl
 have r3:W1.cell? ⟨w.heap.size,3,none⟩=some (.int .i64 0):=by unfold World.cell?;rw[hres];rfl
 have r4:W1.cell? ⟨w.heap.size,4,none⟩=some (.slice none 0 0):=by unfold World.cell?;rw[hres];rfl
 have rz:∀ i,W1.frozen? ⟨w.heap.size,i,none⟩=false:=fun i=>by unfold World.frozen?;rw[hres];simp
 have rz0:=rz 0
 have rz1:=rz 1
 have rz2:=rz 2
 have rz3:=rz 3
 have rz4:=rz 4
 have FW:=F0.trans F1
 clear hnew F0 F1 hres rz hlt HU hT
 rcases hcase with ⟨e,p,h1,h2,h3,h4,rfl⟩ | ⟨m,a0,a1,a4,n0,c0,n1,c1,n4,c4,gn,an,h1,rfl,h3⟩
 ·obtain⟨z0,z1,z2,z3,z4⟩:=put5_cells (.slice none 0 0) (.slice none 0 0) (.int .i64 0) (.int .i64 0) (.slice none 0 0) r0 r1 r2 r3 r4
  have FZ:=FW.trans' (put5_fr W1 w.heap.size (.slice none 0 0) (.slice none 0 0) (.int .i64 0) (.int .i64 0) (.slice none 0 0)) (fun x hx=>.inr (by simp at hx;omega))
  have HY:Hid _:=And.intro z0 (And.intro z1 (And.intro z2 (And.intro z3 z4)))
  have HZ:Hid _:=And.intro FZ h1
  clear z0 z1 z2 z3 z4 FZ FW h1
  go_wp2
  change bodyPost Tryz.prog Tryz.f78 (UnpackPost b w) Exit.ret _ (put5 W1 w.heap.size (.slice none 0 0) (.slice none 0 0) (.int .i64 0) (.int .i64 0) (.slice none 0 0))
  obtain⟨z0,z1,z2,z3,z4⟩:=HY.out
  obtain⟨FZ,h1⟩:=HZ.out
  clear HY HZ r0 r1 r2 r3 r4 rz0 rz1 rz2 rz3 rz4
  generalize put5 W1 w.heap.size (.slice none 0 0) (.slice none 0 0) (.int .i64 0) (.int .i64 0) (.slice none 0 0)=Z at *
  refine bodyPost_ret (v:=.tuple #[.agg #[.slice none 0 0,.slice none 0 0,.int .i64 0,.int .i64 0,.slice none 0 0],.int .i64 p,.int .i64 e]) (by simp[results,Tryz.results78,go_sem,z0,z1,z2,z3,z4]) rfl ?_
  exact⟨FZ,.inl ⟨e,p,h1,h2,h3,h4,rfl⟩⟩
 ·obtain⟨z0,z1,z2,z3,z4⟩:=put5_cells (.slice a0 n0 c0) (.slice a1 n1 c1) (.int .i64 gn) (.int .i64 an) (.slice a4 n4 c4) r0 r1 r2 r3 r4
  have FP:=put5_fr W1 w.heap.size (.slice a0 n0 c0) (.slice a1 n1 c1) (.int .i64 gn) (.int .i64 an) (.slice a4 n4 c4)
  have FZ:=FW.trans' FP (fun x hx=>.inr (by simp at hx;omega))
  have MZ:=(h3.fr FP (by simp;omega)).base (B':=w.heap.size) (by omega)
  have HY:Hid _:=And.intro z0 (And.intro z1 (And.intro z2 (And.intro z3 z4)))
  have HZ:Hid _:=And.intro FZ (And.intro h1 MZ)
  clear z0 z1 z2 z3 z4 FZ FW FP h1 MZ h3
  go_wp2
  change bodyPost Tryz.prog Tryz.f78 (UnpackPost b w) Exit.ret _ (put5 W1 w.heap.size (.slice a0 n0 c0) (.slice a1 n1 c1) (.int .i64 gn) (.int .i64 an) (.slice a4 n4 c4))
  obtain⟨z0,z1,z2,z3,z4⟩:=HY.out
  obtain⟨FZ,h1,MZ⟩:=HZ.out
  clear HY HZ r0 r1 r2 r3 r4 rz0 rz1 rz2 rz3 rz4
  generalize put5 W1 w.heap.size (.slice a0 n0 c0) (.slice a1 n1 c1) (.int .i64 gn) (.int .i64 an) (.slice a4 n4 c4)=Z at *
  refine bodyPost_ret (v:=.tuple #[.agg #[.slice a0 n0 c0,.slice a1 n1 c1,.int .i64 gn,.int .i64 an,.slice a4 n4 c4],.int .i64 0,.int .i64 0]) (by simp[results,Tryz.results78,go_sem,z0,z1,z2,z3,z4]) rfl ?_
  exact⟨FZ,.inr ⟨m,a0,a1,a4,n0,c0,n1,c1,n4,c4,gn,an,h1,rfl,MZ⟩⟩
theorem numC_any (n:Int) (w:World):Calls Tryz.prog 10 #[.int .i64 n] w fun e w'=>e=.returned (.int .i64 n)∧w'=w:=by
 go_enter Tryz.func10,Tryz.ntmps10
 go_wp2
 go_ret
 exact⟨rfl,rfl⟩
structure ScC (w0 W:World) (b:Nat) (ms:Value) (bs:ByteArray) (r d:Value) (xs ys:List Value):Prop where
 fr:FrB w0.heap.size w0 W
 c0:W.cell? ⟨b,0,none⟩=some ms
 c1:W.cell? ⟨b,1,none⟩=some (.string bs)
 c2:W.cell? ⟨b,2,none⟩=some (.string ⟨#[]⟩)
 c3:W.cell? ⟨b,3,none⟩=some r
 c4:W.cell? ⟨b,4,none⟩=some d
 c5:W.cell? ⟨b,5,none⟩=some (.slice none 0 0)
 c6:W.cell? ⟨b,6,none⟩=some (.int .i64 0)
 c7:∀ j,7≤j→j<15→W.cell? ⟨b,j,none⟩=some (.slice none 0 0)
 fz:∀ j,W.frozen? ⟨b,j,none⟩=false
 lb:w0.heap.size≤b
 rr:W.ownsRow w0.heap.size 9 1 r xs.length xs
 rd:W.ownsRow w0.heap.size 3 1 d ys.length ys
 n1:r.ownBlock≠some b
 n2:d.ownBlock≠some b
 n3:∀ g,r.ownBlock=some g→d.ownBlock≠some g
 sz:bs.size≤9223372036854775807
theorem own_of_block {W W':World}{B:Nat}{e:TypeId}{k:Nat}{v:Value}{n:Nat}{xs:List Value} (h:W.ownsRow B e k v n xs) (hb:∀ g,v.ownBlock=some g→W'.heap[g]?=W.heap[g]?):W'.ownsRow B e k v n xs:=by
 refine⟨h.1,?_⟩
 rcases h.2 with h' | ⟨g,cap,cur,hv,hg,hh,r⟩
 ·exact .inl h'
 ·exact .inr ⟨g,cap,cur,hv,hg,by rw[hb g (by rw[hv];rfl)];exact hh,r⟩
def OwnP (w0:World) (b:Nat) (ms:Value) (xn yn:Nat) (e:Ending) (W':World):Prop:=
 e=.returned (.tuple #[])∧∃ bs r d xs ys,ScC w0 W' b ms bs r d xs ys∧xs.length≤xn+1∧ys.length≤yn+1
def opV (k a b':Int) (s t u:ByteArray):Value:=.agg #[.int .i64 k,.int .i64 a,.int .i64 b',.string s,.string t,.string u]
theorem oper_appendB {o:Oper}{a:Act}{w w':World}{K:Act→World→Prop}{Q:Exit→Act→World→Prop} (s x:Operand) (t:TypeId) (ho:o.op=.call { callee:=.builtin .append,args:=#[s,x],argTypes:=#[t,t] }) (v u r:Value) (hs:a.eval s=v) (hx:a.eval x=u)
  (hr:(Builtin.append_ #[t,t] o.type #[v,u]).run Tryz.prog w=.ok r w') (h:K (a.put o.dst r) w'):o.wp Tryz.prog a w K Q:=by
 unfold Oper.wp execOp
 simp only[ho,resolve,invoke,builtin,Sem.run_bind,Sem.run_pure,Result.andThen_ok,List.map_toArray,List.map_cons,List.map_nil,hs,hx,hr]
 exact h
theorem cell_one (w:World) (v:Value) (t:TypeId):∀ j u,[v][j]?=some u→(w.alloc (.cells #[v] t)).cell? ((⟨w.heap.size,0,none⟩:Addr).add j)=some u:=by
 intro j u hj
 have hm:=World.alloc_heap_new w (.cells #[v] t)
 rw[add_plain0]
 unfold World.cell?
 rw[hm]
 simpa using hj
theorem infoTx:(Tryz.prog.info? 9).map (fun i=>(i.zero,i.size,i.bytes))=some (some (.string ⟨#[]⟩),1,16):=by kernel_rfl
theorem infoIt:(Tryz.prog.info? 3).map (fun i=>(i.zero,i.size,i.bytes))=some (some (.int .i64 0),1,8):=by kernel_rfl
theorem pickC_any (c:Int) (n:Nat) (w:World) (hn:0<n) (h0:-9223372036854775808≤c) (h1:c≤9223372036854775807) (hs:n≤9223372036854775807) :
  Calls Tryz.prog 66 #[.int .i64 c,.int .i64 n] w fun e w'=>(∃ i:Nat,i<n∧e=.returned (.int .i64 i))∧w'=w:=by
 have hne:((n:Int)==0)=false:=by simp;omega
 by_cases hc:c<0
 ·obtain⟨m,hm⟩:∃ m:Nat,-(c+1)=(m:Int):=⟨(-(c+1)).toNat,by omega⟩
  have hmod:(m:Int).tmod (n:Int)=((m % n:Nat):Int):=by rw[Int.tmod_eq_emod_of_nonneg (by omega)];rfl
  have hlt:=Nat.mod_lt m hn
  obtain⟨q,hq⟩:∃ q,m % n=q:=⟨_,rfl⟩
  rw[hq] at hmod hlt
  clear hq
  go_enter Tryz.func66,Tryz.ntmps66
  go_wp2
  go_ret
  exact⟨⟨q,hlt,rfl⟩,rfl⟩
 ·obtain⟨m,hm⟩:∃ m:Nat,c=(m:Int):=⟨c.toNat,by omega⟩
  subst hm
  have hmod:(m:Int).tmod (n:Int)=((m % n:Nat):Int):=by rw[Int.tmod_eq_emod_of_nonneg (by omega)];rfl
  have hlt:=Nat.mod_lt m hn
  obtain⟨q,hq⟩:∃ q,m % n=q:=⟨_,rfl⟩
  rw[hq] at hmod hlt
  clear hq
  go_enter Tryz.func66,Tryz.ntmps66
  go_wp2
  go_ret
  exact⟨⟨q,hlt,rfl⟩,rfl⟩
theorem convC_bytes (W:World) (g cap n:Nat) (l:List UInt8) (hl:l.length=n) (hc:∀ j (hj:j<l.length),W.cell? ⟨g,j,none⟩=some (.int .u8 (l[j].toNat:Int))) :
  (convert 129 9 (.slice (some ⟨g,0,none⟩) n cap)).run Tryz.prog W=.ok (.string ⟨l.toArray⟩) W:=by
 subst hl
 exact run_convert_bytes_back (P:=Tryz.prog) W 129 9 5 ⟨g,0,none⟩ cap l Tryz.underlying129 Tryz.underlying5 Tryz.underlying9 (fun j hj=>by rcases j with _ | j <;> simpa [Addr.add] using hc _ hj)
theorem a_byte (x:Int) (h0:0≤x) (h1:x<256):∃ c:UInt8,(c.toNat:Int)=x:=⟨UInt8.ofNat x.toNat,by simp;omega⟩
theorem bytesC_of (W:World) (bs:ByteArray):∃ Wb cap,(convert 9 129 (.string bs)).run Tryz.prog W=.ok (.slice (some ⟨W.heap.size,0,none⟩) bs.size cap) Wb∧Fr [] W Wb∧bs.size≤cap ∧
  (∀ j (hj:j<bs.data.toList.length),Wb.cell? ⟨W.heap.size,j,none⟩=some (.int .u8 ((bs.data.toList[j]).toNat:Int)))∧∀ j,j<bs.size→Wb.frozen? ⟨W.heap.size,j,none⟩=false:=by
 have hr:=run_bytes_of_string (P:=Tryz.prog) W 9 129 5 bs Tryz.underlying9 Tryz.underlying129 Tryz.underlying5
 have hc:bs.size≤grownCap W bs.size 0 5:=grownCap_ge _ _ _ _
 generalize grownCap W bs.size 0 5=cap at hr hc
 have hrow:(bytesRow bs cap).size=cap:=by
  have:bs.data.size=bs.size:=rfl
  simp[bytesRow,this];omega
 have hm:=World.alloc_heap_new W.drew (.cells (bytesRow bs cap) 5 ((bytesRow bs cap).size,(bytesRow bs cap).size+1))
 have hm':(W.drew.alloc (.cells (bytesRow bs cap) 5 ((bytesRow bs cap).size,(bytesRow bs cap).size+1))).heap[W.heap.size]?=some _:=hm
 refine⟨_,cap,hr,((Fr.refl [] W).drew).alloc _,hc,fun j hj=>?_,fun j hj=>?_⟩
 ·unfold World.cell?
  rw[hm']
  have hj':j<bs.data.size:=by simpa using hj
  have e:=Array.getElem?_append_left (xs:=bs.data.map (fun b=>Value.int .u8 b.toNat)) (ys:=Array.replicate (cap-bs.size) (Value.int .u8 0)) (i:=j) (by simpa using hj')
  show (bytesRow bs cap)[j]?=_
  unfold bytesRow
  rw[e,Array.getElem?_map,Array.getElem?_eq_getElem hj']
  rfl
 ·unfold World.frozen?
  rw[hm']
  simp[hrow]
  omega
theorem setCell_far' {W:World}{b c i j:Nat}{v:Value} (h:b≠c):(W.setCell ⟨b,i,none⟩ v).cell? ⟨c,j,none⟩=W.cell? ⟨c,j,none⟩:=far_cell h
end Go.Proofs.YtclkgoigmgkffaaGreatDoor
