import Derived.Test.YtmolfmgchbjnbaaGreatDoorM32
set_option linter.unusedSimpArgs false
set_option linter.unusedVariables false
set_option linter.unusedSectionVars false
set_option maxRecDepth 100000
set_option maxHeartbeats 40000000
open _root_.Go.Proofs.Tryz
namespace Go.Proofs.YtmolfmgchbjnbaaGreatDoor
open Go.RowKit
open Wire
namespace Tok
open Ev (signs)
theorem word_x:WordIs ⟨[120].toArray⟩ false:=by
 intro w;go_enter func136,ntmps136;go_wp2;go_ret;exact⟨rfl,rfl⟩
theorem word_y:WordIs ⟨[121].toArray⟩ false:=by
 intro w;go_enter func136,ntmps136;go_wp2;go_ret;exact⟨rfl,rfl⟩
theorem word_length:WordIs ⟨[108,101,110,103,116,104].toArray⟩ true:=by
 intro w;go_enter func136,ntmps136;go_wp2;go_ret;exact⟨rfl,rfl⟩
def escB (x:UInt8):LB:=if x=10 then [92,110] else if x=9 then [92,116] else if x=34∨x=92 then [92,x] else [x]
def qL (X:LB):LB:=34 :: (X.flatMap escB++[34])
section
variable {ss:LY}{s:BA}{a:Nat}{l p X:LB}{L R:List Tk}
theorem txt_of:∀ {X:LB}{a:Nat},Rest s a (X.flatMap escB++(34 :: l))→Txt s X a (a+(X.flatMap escB).length+1)
 | [],a,h=>⟨by rw[Rest.lk (l:=l) h];rfl,by simp⟩
 | x :: X,a,h=>by
  rw[List.flatMap_cons,List.append_assoc] at h
  have esc:∀ y:UInt8,escB x=[92,y]→Esc (y.toNat:Int) x→Txt s (x :: X) a (a+((x :: X).flatMap escB).length+1):=fun y e he=>by
   rw[e] at h
   have h1:Tok.lk s a=92:=Rest.lk (l:=y :: (X.flatMap escB++(34 :: l))) h
   have h':Rest s (a+1) (y :: (X.flatMap escB++(34 :: l))):=Rest.skip (p:=[92]) h
   have h2:Tok.lk s (a+1)=(y.toNat:Int):=h'.lk
   have h3:Rest s (a+2) (X.flatMap escB++(34 :: l)):=Rest.skip (p:=[92,y]) h
   have:=txt_of h3
   refine .inr ⟨h1,by rw[h2];exact he,?_⟩
   rw[List.flatMap_cons,e,Lla]
   rw[show a+([92,y].length+(X.flatMap escB).length)+1=a+2+(X.flatMap escB).length+1 by simp;omega]
   exact this
  by_cases h10:x=10
  ·subst h10;exact esc 110 rfl (.inl ⟨rfl,rfl⟩)
  by_cases h9:x=9
  ·subst h9;exact esc 116 rfl (.inr (.inl ⟨rfl,rfl⟩))
  by_cases h34:x=34
  ·subst h34;exact esc 34 rfl (.inr (.inr (.inl ⟨rfl,rfl⟩)))
  by_cases h92:x=92
  ·subst h92;exact esc 92 rfl (.inr (.inr (.inr ⟨rfl,rfl⟩)))
  have e:escB x=[x]:=by unfold escB;rw[if_neg h10,if_neg h9,if_neg (by simp[h34,h92])]
  rw[e] at h
  have h1:Tok.lk s a=(x.toNat:Int):=Rest.lk (l:=X.flatMap escB++(34 :: l)) h
  have h3:Rest s (a+1) (X.flatMap escB++(34 :: l)):=Rest.skip (p:=[x]) h
  have:=txt_of h3
  refine .inl ⟨h1,h34,h92,h10,?_⟩
  rw[List.flatMap_cons,e,Lla]
  rw[show a+([x].length+(X.flatMap escB).length)+1=a+1+(X.flatMap escB).length+1 by simp;omega]
  exact this
theorem text_at (h:Rest s a (p++(qL X++l)))(hb:p.all (fun c=>isBl (c.toNat:Int))=true):Skip isBl s a (a+p.length)∧Tok.lk s (a+p.length)=34∧Txt s X (a+p.length+1) (a+p.length+(qL X).length)∧Rest s (a+p.length+(qL X).length) l:=by
 obtain⟨h1,h2⟩:=h.blanks hb rfl;have h2':Rest s (a+p.length) (34 :: (X.flatMap escB++(34 :: l))):=by
  have e:qL X++l=34 :: (X.flatMap escB++(34 :: l)):=by simp[qL]
  rw[← e];exact h2
 have h3:Rest s (a+p.length+1) (X.flatMap escB++(34 :: l)):=Rest.skip (p:=[34]) h2';have h4:=txt_of h3;have e2:a+p.length+(qL X).length=a+p.length+1+(X.flatMap escB).length+1:=by simp[qL];omega
 exact⟨h1,h2'.lk,by rw[e2];exact h4,h2.skip⟩
theorem rd_text (h:Rest s a (p++(qL X++l)))(hb:p.all (fun c=>isBl (c.toNat:Int))=true)(hl:X.length≤100)
  (hr:Rest s (a+p.length+(qL X).length) l→Rds ss s (a+p.length+(qL X).length) (L++[⟨textK,a+p.length,0,⟨X.toArray⟩⟩]) R):Rds ss s a L R:=by
 obtain⟨h1,h2,h3,h4⟩:=text_at h hb;exact .text h1 h2 h3 hl (hr h4)
theorem rd_long (h:Rest s a (p++(qL X++l)))(hb:p.all (fun c=>isBl (c.toNat:Int))=true)(hl:¬ X.length≤100):Rds ss s a L (L++[⟨wrongK,a+p.length,0,⟨#[]⟩⟩]):=by
 obtain⟨h1,h2,h3,h4⟩:=text_at h hb;exact .long h1 h2 h3 hl
end
theorem last_at:SignAt signs ([125]++[]) ⟨[125].toArray⟩:=by
 have key:(signs.take 30).all (fun t=>!Lib.hasPrefix [125] t.data.toList)=true:=rfl;refine⟨⟨30,rfl,rfl,fun j t hj ht=>?_⟩,by simp[ByteArray.size]⟩;have:=List.all_eq_true.1 key t (List.mem_of_getElem? (i:=j) (by rw[List.getElem?_take_of_lt hj];exact ht));simpa using this
theorem eq_at {l:LB}:SignAt signs ((61 :: [61])++l) ⟨(61 :: [61]).toArray⟩:=by
 refine⟨⟨1,rfl,by simp[Lib.hasPrefix,List.isPrefixOf],fun j t hj ht=>?_⟩,by simp[ByteArray.size]⟩;obtain rfl:j=0:=by omega
 cases ht;simp[Lib.hasPrefix,List.isPrefixOf]
def prB (X:LB):LB:=[66,69,71,73,78,32,123,32,112,114,105,110,116,32]++(qL X++[59,32,125])
def caB (A B Y:LB):LB:=[66,69,71,73,78,32,123,32,120,32,61,32]++(qL A++([59,32,121,32,61,32,120,32,46,32]++(qL B++([59,32,112,114,105,110,116,32,108,101,110,103,116,104,40,121,41,44,32,121,44,32,121,32,61,61,32]++(qL Y++[59,32,125])))))
def srcB (l:LB):BA:=⟨l.toArray⟩
theorem tail_rds {s:BA}{a:Nat}{L:List Tk} (h:Rest s a [59,32,125]):Rds signs s a L (((L++[(wd [59] a).1])++[(wd [125] (a+2)).1])++[⟨endK,a+3,0,⟨#[]⟩⟩]):=by
 refine rd_sign (p:=[]) (c:=59) (w:=[]) (l:=[32,125]) h rfl rfl (.inl (by decide)) (signAt_of 32 rfl rfl) fun h=>?_;refine rd_sign (p:=[32]) (c:=125) (w:=[]) (l:=[]) h rfl rfl (.inl (by decide)) last_at fun h=>?_;exact rd_end (p:=[]) h rfl
theorem head_rds {s:BA}{X l:LB}{R:List Tk} (h:Rest s 0 ([66,69,71,73,78,32,123,32,112,114,105,110,116,32]++(qL X++l))) (hr:Rest s 13 ([32]++(qL X++l))→Rds signs s 13 [(wd [66,69,71,73,78] 0).1,(wd [123] 6).1,(wd [112,114,105,110,116] 8).1] R):Rds signs s 0 [] R:=by
 refine rd_word (p:=[]) (c:=66) (w:=[69,71,73,78]) (l:=[32,123,32,112,114,105,110,116,32]++(qL X++l)) h rfl rfl rfl rfl word_BEGIN fun h=>?_;refine rd_sign (p:=[32]) (c:=123) (w:=[]) (l:=[32,112,114,105,110,116,32]++(qL X++l)) h rfl rfl (.inl (by decide)) (signAt_of 29 rfl rfl) fun h=>?_;refine rd_word (p:=[32]) (c:=112) (w:=[114,105,110,116]) (l:=[32]++(qL X++l)) h rfl rfl rfl rfl word_print fun h=>?_;exact hr h
theorem pr_rds {X:LB}(hX:X.length≤100):Rds signs (srcB (prB X)) 0 [] ((prT ⟨X.toArray⟩ (14+(qL X).length)).map (·.1)):=by
 have h:=Rest.start (prB X);unfold srcB;unfold prB at h ⊢;refine head_rds h fun h=>?_;refine rd_text (p:=[32]) (X:=X) (l:=[59,32,125]) h rfl hX fun h=>?_;exact tail_rds h
theorem bad_rds {X:LB}(hX:¬ X.length≤100):Rds signs (srcB (prB X)) 0 [] [(wd [66,69,71,73,78] 0).1,(wd [123] 6).1,(wd [112,114,105,110,116] 8).1,⟨wrongK,14,0,⟨#[]⟩⟩]:=by
 have h:=Rest.start (prB X);unfold srcB;unfold prB at h ⊢;refine head_rds h fun h=>?_;exact rd_long (p:=[32]) (X:=X) (l:=[59,32,125]) h rfl hX
theorem Rds.same {ss:LY}{s:BA}{a:Nat}{L R R':List Tk} (h:Rds ss s a L R) (e:R=R'):Rds ss s a L R':=e ▸ h
section
variable {s:BA}{a:Nat}{A B Y r:LB}{L R:List Tk}
theorem seg1 (hA:A.length≤100)(h:Rest s 0 ([66,69,71,73,78,32,123,32,120,32,61,32]++(qL A++r)))(hr:Rest s (12+(qL A).length) r→Rds signs s (12+(qL A).length) [(wd [66,69,71,73,78] 0).1,(wd [123] 6).1,(nm 120 8).1,(wd [61] 10).1,⟨textK,12,0,⟨A.toArray⟩⟩] R):Rds signs s 0 [] R:=by
 refine rd_word (p:=[]) (c:=66) (w:=[69,71,73,78]) (l:=[32,123,32,120,32,61,32]++(qL A++r)) h rfl rfl rfl rfl word_BEGIN fun h=>?_;refine rd_sign (p:=[32]) (c:=123) (w:=[]) (l:=[32,120,32,61,32]++(qL A++r)) h rfl rfl (.inl (by decide)) (signAt_of 29 rfl rfl) fun h=>?_;refine rd_word (p:=[32]) (c:=120) (w:=[]) (l:=[32,61,32]++(qL A++r)) h rfl rfl rfl rfl word_x fun h=>?_;refine rd_sign (p:=[32]) (c:=61) (w:=[]) (l:=[32]++(qL A++r)) h rfl rfl (.inl (by decide)) (signAt_of 24 rfl rfl) fun h=>?_;refine rd_text (p:=[32]) (X:=A) (l:=r) h rfl hA fun h=>?_;exact hr h
theorem seg2 (hB:B.length≤100)(h:Rest s a ([59,32,121,32,61,32,120,32,46,32]++(qL B++r)))(hr:Rest s (a+10+(qL B).length) r→Rds signs s (a+10+(qL B).length) ((((((L++[(wd [59] (a)).1])++[(nm 121 (a+2)).1])++[(wd [61] (a+4)).1])++[(nm 120 (a+6)).1])++[(wd [46] (a+8)).1])++[⟨textK,a+10,0,⟨B.toArray⟩⟩]) R):Rds signs s a L R:=by
 refine rd_sign (p:=[]) (c:=59) (w:=[]) (l:=[32,121,32,61,32,120,32,46,32]++(qL B++r)) h rfl rfl (.inl (by decide)) (signAt_of 32 rfl rfl) fun h=>?_;refine rd_word (p:=[32]) (c:=121) (w:=[]) (l:=[32,61,32,120,32,46,32]++(qL B++r)) h rfl rfl rfl rfl word_y fun h=>?_;refine rd_sign (p:=[32]) (c:=61) (w:=[]) (l:=[32,120,32,46,32]++(qL B++r)) h rfl rfl (.inl (by decide)) (signAt_of 24 rfl rfl) fun h=>?_;refine rd_word (p:=[32]) (c:=120) (w:=[]) (l:=[32,46,32]++(qL B++r)) h rfl rfl rfl rfl word_x fun h=>?_;refine rd_sign (p:=[32]) (c:=46) (w:=[]) (l:=[32]++(qL B++r)) h rfl rfl (.inl (by decide)) (signAt_of 17 rfl rfl) fun h=>?_;refine rd_text (p:=[32]) (X:=B) (l:=r) h rfl hB fun h=>?_;exact hr h
theorem seg3 (h:Rest s a ([59,32,112,114,105,110,116,32,108,101,110,103,116,104,40,121,41]++(44 :: r)))(hr:Rest s (a+17) (44 :: r)→Rds signs s (a+17) ((((((L++[(wd [59] (a)).1])++[(wd [112,114,105,110,116] (a+2)).1])++[(wd [108,101,110,103,116,104] (a+8)).1])++[(wd [40] (a+14)).1])++[(nm 121 (a+15)).1])++[(wd [41] (a+16)).1]) R):Rds signs s a L R:=by
 refine rd_sign (p:=[]) (c:=59) (w:=[]) (l:=[32,112,114,105,110,116,32,108,101,110,103,116,104,40,121,41]++(44 :: r)) h rfl rfl (.inl (by decide)) (signAt_of 32 rfl rfl) fun h=>?_;refine rd_word (p:=[32]) (c:=112) (w:=[114,105,110,116]) (l:=[32,108,101,110,103,116,104,40,121,41]++(44 :: r)) h rfl rfl rfl rfl word_print fun h=>?_;refine rd_word (p:=[32]) (c:=108) (w:=[101,110,103,116,104]) (l:=[40,121,41]++(44 :: r)) h rfl rfl rfl rfl word_length fun h=>?_;refine rd_sign (p:=[]) (c:=40) (w:=[]) (l:=[121,41]++(44 :: r)) h rfl rfl (.inl (by decide)) (signAt_of 25 rfl rfl) fun h=>?_;refine rd_word (p:=[]) (c:=121) (w:=[]) (l:=[41]++(44 :: r)) h rfl rfl rfl rfl word_y fun h=>?_;refine rd_sign (p:=[]) (c:=41) (w:=[]) (l:=44 :: r) h rfl rfl (.inl (by decide)) (signAt_of 26 rfl rfl) fun h=>?_;exact hr h
theorem seg4 (hY:Y.length≤100)(h:Rest s a ([44,32,121,44,32,121,32,61,61,32]++(qL Y++r)))(hr:Rest s (a+10+(qL Y).length) r→Rds signs s (a+10+(qL Y).length) ((((((L++[(wd [44] (a)).1])++[(nm 121 (a+2)).1])++[(wd [44] (a+3)).1])++[(nm 121 (a+5)).1])++[(wd [61,61] (a+7)).1])++[⟨textK,a+10,0,⟨Y.toArray⟩⟩]) R):Rds signs s a L R:=by
 refine rd_sign (p:=[]) (c:=44) (w:=[]) (l:=[32,121,44,32,121,32,61,61,32]++(qL Y++r)) h rfl rfl (.inl (by decide)) (signAt_of 31 rfl rfl) fun h=>?_;refine rd_word (p:=[32]) (c:=121) (w:=[]) (l:=[44,32,121,32,61,61,32]++(qL Y++r)) h rfl rfl rfl rfl word_y fun h=>?_;refine rd_sign (p:=[]) (c:=44) (w:=[]) (l:=[32,121,32,61,61,32]++(qL Y++r)) h rfl rfl (.inl (by decide)) (signAt_of 31 rfl rfl) fun h=>?_;refine rd_word (p:=[32]) (c:=121) (w:=[]) (l:=[32,61,61,32]++(qL Y++r)) h rfl rfl rfl rfl word_y fun h=>?_;refine rd_sign (p:=[32]) (c:=61) (w:=[61]) (l:=[32]++(qL Y++r)) h rfl rfl (.inl (by decide)) eq_at fun h=>?_;refine rd_text (p:=[32]) (X:=Y) (l:=r) h rfl hY fun h=>?_;exact hr h
end
theorem ca_rds {A B Y:LB}(hA:A.length≤100)(hB:B.length≤100)(hY:Y.length≤100)(i j k:Nat):∃ a b c,Rds signs (srcB (caB A B Y)) 0 [] ((caT i j k ⟨A.toArray⟩ ⟨B.toArray⟩ ⟨Y.toArray⟩ a b c).map (·.1)):=by
 obtain⟨a,ha⟩:=eXi (12+(qL A).length);obtain⟨b,hb⟩:=eXi (a+10+(qL B).length);obtain⟨c,hc⟩:=eXi (b+17+10+(qL Y).length);refine⟨a,b,c,?_⟩;have h:Rest (srcB (caB A B Y)) 0 (caB A B Y):=Rest.start (caB A B Y);generalize srcB (caB A B Y)=S at h ⊢;unfold caB at h;obtain⟨R,hR⟩:=eXi ((caT i j k ⟨A.toArray⟩ ⟨B.toArray⟩ ⟨Y.toArray⟩ a b c).map (·.1));rw[hR];refine seg1 hA h fun h=>?_;rw[ha] at h ⊢;refine seg2 hB h fun h=>?_;rw[hb] at h ⊢;have h:Rest S b ([59,32,112,114,105,110,116,32,108,101,110,103,116,104,40,121,41]++(44 :: ([32,121,44,32,121,32,61,61,32]++(qL Y++[59,32,125])))):=⟨h.le,by rw[h.is];rfl⟩;refine seg3 h fun h=>?_;have h:Rest S (b+17) ([44,32,121,44,32,121,32,61,61,32]++(qL Y++[59,32,125])):=⟨h.le,by rw[h.is];rfl⟩;refine seg4 hY h fun h=>?_;rw[hc] at h ⊢;exact Rds.same (tail_rds h) (by rw[← hR];simp[caT,wd,nm,tx])
end Tok
end Go.Proofs.YtmolfmgchbjnbaaGreatDoor
