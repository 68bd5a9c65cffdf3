import Derived.Test.YtglejnkoojpelaaGreatMT13
import Derived.Test.YtglejnkoojpelaaGreatNT1
set_option maxRecDepth 100000
set_option maxHeartbeats 32000000
namespace Go.Proofs.YtglejnkoojpelaaGreat.Tree
open Go.RowKit Gen
open Disk (St Dev Mod ptr)
open Page (Pg Lay PgOk g0c pgC pgV Enc g0v BytesAt strV strB g0m PRow less Lt g1l g3h)
open Pool (Po NAt PoAt La poC poV numV At g0k g1g g1k g2m g0g OwnI chunks layAll May g2p)
open Store
open Lib (hid)
theorem k8c {w:World} {B:Blk} {d:St} {t:T} {a:Lys} (h:Sto w B d t a) {n:Int} {p:Pg} (hp:PgAt d n 2 p) (L:List Held) (hl:L.length=p.kids.length) (hb:g3q p.keys L) (lo hi:Disk.Bs) (hr:InR lo hi (L.flatMap (·.1)))
 (hne:∀ z∈L,z.1≠[]) (hlo:hi≠[]->Lt lo hi) (m:Nat) (hm:m+2<=20) (hc1:(L.flatMap (·.1)).length<=100000) (hc2:(L.flatMap (·.2)).length<=100000)
 (ih:∀ (i:Nat) (hi':i<L.length) (x:Int) (W:World),p.kids[i]?=some x->Below w.heap.size w W ->
   Calls Tryz.prog 58 #[ptr B.ss,.int .i64 x,.int .i64 ((m+1:Nat):Int),strV (lowK p.keys lo i),strV (h2b p.keys hi i),.bool false] W (h9r L[i].2 L[i].1.length W)) :
 Calls Tryz.prog 58 #[ptr B.ss,.int .i64 n,.int .i64 ((m+2:Nat):Int),strV lo,strV hi,.bool true] w (h9r (n :: L.flatMap (·.2)) (L.flatMap (·.1)).length w):=by
 have cP:=Store.g9c h n;have HK:=hid (g3c hp);have K1:=hid (((Page.g7x hp.2.2).1 (g2l hp)).1.len.1);obtain ⟨h0,h1,h2⟩:=hp;have H0:=hid h0;have H1:=hid h1;have H2:=hid h2;have HLO:=hid (fun (i:Nat) (h':i<L.length)=>k9y hb (by rw [hl];exact HK.out) hr hne hlo h');have IH:=hid ih;have HHL:=hid hlo;have HL:=hid hl;have HC1:=hid hc1;have HC2:=hid hc2;obtain ⟨X,hX⟩:∃ X,strB lo=X:=⟨_,rfl⟩
 obtain ⟨Z,hZ⟩:∃ Z,strB hi=Z:=⟨_,rfl⟩;rw [show strV lo=.string X by rw [<- hX],show strV hi=.string Z by rw [<- hZ]];have HX:=hid hX;have HZ:=hid hZ;have hzl:Z.toList=hi:=by rw [<- hZ,g0m]
 have HZL:=hid hzl;obtain ⟨D,hD⟩:∃ D,((m+2:Nat):Int)=D:=⟨_,rfl⟩;obtain ⟨E,hE⟩:∃ E,((m+1:Nat):Int)=E:=⟨_,rfl⟩;rw [hE] at IH;rw [hD];have g1:¬ D<1:=by omega
 have g2:¬ 20<D:=by omega
 have g3:(D==1)=false:=beq_eq_false_iff_ne.2 (by omega);have HDE:=hid (show IntKind.i64.wrap (D-1)=E from by rw [IntWalk.i64_in _ (by omega)];omega);clear h0 h1 h2 hr hX hZ h hl hb hne hlo ih hc1 hc2 hzl hD hE hm;go_enter Tryz.func58,Tryz.ntmps58
 go_wp2_with fail
 refine cP.mono ?_;rintro e w1 ⟨b1,⟨hne,-⟩ | ⟨-,⟨p',y,rfl,hrows,hok,hq,-,hnew⟩ | ⟨-,hno⟩⟩⟩
 ·exact absurd H0.out hne
 rotate_left
 ·exact absurd (hno p H1.out) (by have:=H2.out;omega)
 obtain rfl:=Page.g6u H1.out hq;have P1:=hid (g1s w1 p y);have b2:=Pool.g0a w1 (.cells (pgC p y) 103);have a2:=at_new w1 (pgC p y) 103;obtain ⟨pv,hpv⟩:∃ pv,pgV p y=pv:=⟨_,rfl⟩;rw [hpv] at P1;rw [hpv];obtain ⟨W8,hW8⟩:∃ W8,w1.alloc (.cells (pgC p y) 103)=W8:=⟨_,rfl⟩;rw [hW8] at P1 b2 a2;have A2:=hid a2;have B2:=hid (b1.trans (b2.mono b1.size));have R2:=hid (hrows.below b2);obtain ⟨pb,hpb⟩:∃ pb,w1.heap.size=pb:=⟨_,rfl⟩
 have EP:=hid hpb;have b9:=Pool.g0a W8 (.cells #[.int .i64 n] 3);have O9:=hid (show OwnI (W8.alloc (.cells #[.int .i64 n] 3)) W8.heap.size (.slice (some ⟨W8.heap.size,0,none⟩) 1 1) [n] from ⟨rfl,.inr ⟨W8.heap.size,1,#[numV n],rfl,Nat.le_refl _,heap_alloc_last W8 _,Nat.le_refl _,by unfold maxLen;omega,rfl,rfl⟩⟩);have BB9:=hid b9;have A9:=A2.out.below b9 A2.out.1;obtain ⟨W9,hW9⟩:∃ W9,W8.alloc (.cells #[.int .i64 n] 3)=W9:=⟨_,rfl⟩
 rw [hW9] at O9 BB9 A9;obtain ⟨v9,hv9⟩:∃ v9,Value.slice (some ⟨W8.heap.size,0,none⟩) 1 1=v9:=⟨_,rfl⟩;rw [hv9] at O9;obtain ⟨N,hN⟩:∃ N,p.kids.length=N:=⟨_,rfl⟩;obtain ⟨K,hK⟩:∃ K,p.keys.length=K:=⟨_,rfl⟩;have HN:=hid hN;have HKK:=hid hK;have ck:W9.cell? ⟨w1.heap.size,0,none⟩=some (.int .i64 2):=by rw [<- H2.out];exact A9.2.2 0 _ rfl
 have c2:W9.cell? ⟨w1.heap.size,2,none⟩=some (.slice y.A2 K y.c2):=by rw [<- hK];exact A9.2.2 2 _ rfl
 have c3:W9.cell? ⟨w1.heap.size,3,none⟩=some (.slice y.A3 N y.c3):=by rw [<- hN];exact A9.2.2 3 _ rfl
 clear hpv b1 b2 a2 cP hrows hW8 hnew hq b9 A9 hN hK;have FROM:=hid (And.intro A2.out R2.out);have CC:=hid (And.intro c2 c3);rw [hpb] at FROM CC;clear hpb A2 R2;go_wp2_with (first | ((with_reducible refine Disk.g0b rfl 103 (.tmp 15) (.tmp 30) rfl _ _ ?_ ?_ P1.out ?_);(next=>rfl);(next=>rfl)))
 rw [EP.out]
 try rw [hW9]
 try rw [hv9]
 clear hW9 hv9 P1 EP ck c2 c3;go_loopw [17,19,20] (fun v cn i wr=>∃ k:Nat,i=.int .i64 (k:Int)/\cn=.int .i64 (((L.take k).flatMap (·.1)).length:Int)/\k<=N/\Hid (OwnI wr W8.heap.size v (n :: (L.take k).flatMap (·.2))/\Below W8.heap.size W8 wr)) (fun _ _ i _=>N-(intOf i).toNat)
 case atStart=>exact ⟨0,rfl,rfl,Nat.zero_le _,hid ⟨O9.out,BB9.out⟩⟩
 case round =>
  obtain ⟨k,rfl,rfl,hk,HB⟩:=hrel;clear O9 BB9;obtain ⟨ho,hbw⟩:=HB.out;have A:=FROM.out.1.below hbw FROM.out.1.1;have R:=FROM.out.2.below hbw;have c3:wr.cell? ⟨pb,3,none⟩=some (.slice y.A3 N y.c3):=by rw [<- HN.out];exact A.2.2 3 _ rfl
  by_cases hlt:k<N
  rotate_left
  ·obtain rfl:k=N:=by omega
   have e1:(L.take k)=L:=List.take_of_length_le (by have:=HL.out;have:=HN.out;omega);rw [e1] at ho ⊢;have FIN:=hid (And.intro ho (B2.out.trans (hbw.mono B2.out.size)));clear ho hbw HB A R hlt hk;go_wp2_with fail
   refine bodyPost_ret (g2a rfl) rfl ?_;exact ⟨_,rfl,Pool.g2g FIN.out.1 B2.out.size,FIN.out.2⟩
  have hkL:k<L.length:=by have:=HL.out;have:=HN.out;omega
  have hkk:k<p.kids.length:=by have:=HN.out;omega
  obtain ⟨b3,o3,hA3,hb3,hc3⟩:=R.r3 (by intro e;rw [e] at hkk;simp at hkk);rw [hA3] at c3;obtain ⟨x,hx⟩:∃ x,p.kids[k]=x:=⟨_,rfl⟩;have q3:wr.cell? ⟨b3,o3+k,none⟩=some (.int .i64 x):=by rw [<- hx];exact hc3 k hkk
  have c2:wr.cell? ⟨pb,2,none⟩=some (.slice y.A2 K y.c2):=by rw [<- HKK.out];exact A.2.2 2 _ rfl
  have cF:=IH.out k hkL x wr (by rw [List.getElem?_eq_getElem hkk,hx]) (B2.out.trans (hbw.mono B2.out.size));have hlow:=HLO.out k hkL;obtain ⟨LB,hLB⟩:∃ LB,strB (lowK p.keys lo k)=LB:=⟨_,rfl⟩;obtain ⟨UB,hUB⟩:∃ UB,strB (h2b p.keys hi k)=UB:=⟨_,rfl⟩;rw [show strV (lowK p.keys lo k)=.string LB by rw [<- hLB],show strV (h2b p.keys hi k)=.string UB by rw [<- hUB]] at cF;have d1:Op.bytesLess LB.toList X.toList=false:=by
   rw [<- hLB,<- HX.out,g0m,g0m];exact j3c hlow.1
  have d2:Z.toList=[]\/Op.bytesLess LB.toList Z.toList=true:=by
   by_cases hz:Z.toList=[]
   ·exact .inl hz
   ·right
    rw [<- hLB,g0m,HZL.out];exact hlow.2 (by rw [<- HZL.out];exact hz)
  obtain ⟨s,hs⟩:∃ s,((L.take k).flatMap (·.1)).length=s:=⟨_,rfl⟩;obtain ⟨s2,hs2⟩:∃ s2,L[k].1.length=s2:=⟨_,rfl⟩;have hs3:((L.take (k+1)).flatMap (·.1)).length=s+s2:=by rw [g6h hkL,List.length_append,hs,hs2]
  have l1:=h4a (·.1) L (k+1);have l2:=h4a (·.2) L (k+1);have l3:((L.take (k+1)).flatMap (·.2)).length=((L.take k).flatMap (·.2)).length+L[k].2.length:=by rw [g6h hkL,List.length_append]
  have hcw:IntKind.i64.wrap ((s:Int)+(s2:Int))=(((L.take (k+1)).flatMap (·.1)).length:Int):=by
   have:=HC1.out;rw [IntWalk.i64_in _ (by omega)];omega
  have hwr:IntKind.i64.wrap ((k:Int)+1)=(k:Int)+1:=IntWalk.i64_in _ (by have:=HL.out;have:=HN.out;have:=hok.kids;omega);have hap:=hid (show ((n :: (L.take k).flatMap (·.2)):List Int).length+L[k].2.length<=100001 by have:=HC2.out;rw [List.length_cons];omega);rw [hs2] at cF;rw [hs];have t1:(k:Int)<(N:Int):=by omega
  have t2:(0:Int)<=(k:Int):=by omega
  have HO:=hid (And.intro ho hbw);have E2:=hid (g6h (f:=(·.2)) hkL);have hkey:∀ j (h:j<p.keys.length),∃ b o,y.A2=some ⟨b,o,none⟩/\wr.cell? ⟨b,o+j,none⟩=some (strV p.keys[j]):=fun j h=>by
   obtain ⟨b,o,e,-,hc⟩:=R.r2 (by intro e;rw [e] at h;simp at h);exact ⟨b,o,e,hc j h⟩
  have hsel:(k=0/\LB=X\/∃ q b o,k=q+1/\q<K/\y.A2=some ⟨b,o,none⟩/\wr.cell? ⟨b,o+q,none⟩=some (.string LB)):=by
   by_cases h0:k=0
   ·exact .inl ⟨h0,by rw [<- hLB,<- HX.out,h0];rfl⟩
   ·right
    obtain ⟨q,rfl⟩:∃ q,k=q+1:=⟨k-1,by omega⟩;have hq:q<p.keys.length:=by have:=HK.out;omega
    obtain ⟨b,o,e,hc⟩:=hkey q hq;refine ⟨q,b,o,rfl,by have:=HKK.out;omega,e,?_⟩;rw [hc,<- hLB,lowK,if_pos (by omega),show q+1-1=q by omega,List.getElem?_eq_getElem hq]
    rfl
  have husel:(¬ k<K/\UB=Z)\/(k<K/\∃ b o,y.A2=some ⟨b,o,none⟩/\wr.cell? ⟨b,o+k,none⟩=some (.string UB)):=by
   by_cases h0:k<K
   ·right
    have hq:k<p.keys.length:=by have:=HKK.out;omega
    obtain ⟨b,o,e,hc⟩:=hkey k hq;refine ⟨h0,b,o,e,?_⟩;rw [hc,<- hUB,h2b,if_pos hq,List.getElem?_eq_getElem hq]
    rfl
   ·refine .inl ⟨h0,?_⟩;rw [<- hUB,<- HZ.out,h2b,if_neg (by have:=HKK.out;omega)]
  have DE:=HDE.out;have TAIL:=hid (show ∀ (w5:World) (v5:Value),OwnI w5 wr.heap.size v5 L[k].2->Below wr.heap.size wr w5->∃ A5 c5 v6 w6,v5=.slice A5 L[k].2.length c5/\(Builtin.append_ #[66,66] 66 #[u17,.slice A5 L[k].2.length c5]).run Tryz.prog w5=.ok v6 w6 /\
   OwnI w6 W8.heap.size v6 (n :: (L.take (k+1)).flatMap (·.2))/\Below W8.heap.size W8 w6 from fun w5 v5 o5 b5=>by
   obtain ⟨A5,c5,rfl,n5,-,-,r5⟩:=o5.row;have ho5:=HO.out.1.kept b5;have hb5:=HO.out.2.trans (b5.mono HO.out.2.size);obtain ⟨v6,w6,hrun,ho6,hg6,_⟩:=g1x g2p w5 W8.heap.size _ _ ho5 A5 L[k].2.length c5 L[k].2 rfl n5 r5 (by have:=hap.out;omega) hb5.size;rw [List.cons_append,<- E2.out] at ho6;exact ⟨A5,c5,v6,w6,rfl,hrun,ho6,below_grown hb5 ho5 hg6 hb5.size⟩)
  obtain ⟨F2,hF2⟩:∃ F2,L[k].2=F2:=⟨_,rfl⟩;obtain ⟨m2,hm2⟩:∃ m2,F2.length=m2:=⟨_,rfl⟩;rw [hF2,hm2] at TAIL;rw [hF2] at cF;obtain ⟨s3,hs4⟩:∃ s3,((L.take (k+1)).flatMap (·.1)).length=s3:=⟨_,rfl⟩;rw [hs4] at hcw;have HS3:=hid hs4;clear hs4 hs3 l1 l2 l3 hs hs2 hkey hlow hLB hUB hc3 hA3 hb3 ho hbw A R HB hap hx hF2 hm2 HO E2 hkL hkk;have SELF:=hid (show Op.bytesLess X.toList X.toList=false/\(Z.toList=[]\/Op.bytesLess X.toList Z.toList=true) from ⟨by rw [<- HX.out,g0m];exact g2q lo,by
   rcases hsel with ⟨-,e⟩ | ⟨_,_,_,h',_⟩
   ·rw [<- e];exact d2
   ·by_cases hz:Z.toList=[]
    ·exact .inl hz
    ·right
     rw [<- HX.out,g0m,HZL.out];exact HHL.out (by rw [<- HZL.out];exact hz)⟩)
  rcases hsel with ⟨h0,hLX⟩ | ⟨q,b,o,hkq,hqK,hA,hcq⟩
  ·rcases husel with ⟨hnk,hUZ⟩ | ⟨hkK,b',o',hA',hcu⟩
   ·exfalso
    have:=K1.out;have:=HKK.out;omega
   ·subst h0;rw [hLX] at cF;rw [hA'] at c2;have hcu:wr.cell? ⟨b',o',none⟩=some (.string UB):=hcu;have q3:wr.cell? ⟨b3,o3,none⟩=some (.int .i64 x):=q3;have tk:(0:Int)<(K:Int):=by omega
    have t1:(0:Int)<(N:Int):=by omega
    have hcw:IntKind.i64.wrap ((s:Int)+(s2:Int))=(s3:Int):=hcw;clear hLX d1 d2 t2 hwr;have d1:Op.bytesLess X.toList X.toList=false:=SELF.out.1
    by_cases hz:Z.toList=[]
    ·skip
     go_wp2_with fail
     refine cF.mono ?_;rintro e w5 ⟨v5,rfl,o5,b5⟩;obtain ⟨A5,c5,v6,w6,rfl,hrun,ho6,hb6⟩:=TAIL.out w5 v5 o5 b5;have R1:=hid hrun;have NX:=hid (And.intro ho6 hb6);clear cF TAIL hrun ho6 hb6 o5 b5 c2 c3 q3;go_wp2_with (at_builtin;(refine g0e rfl (.tmp 160) (.tmp 161) _ rfl rfl rfl R1.out ?_;clear R1))
     go_roundw
     case rel=>exact ⟨1,by go_num,by rw [HS3.out],by omega,NX⟩
     case measure=>simp [intOf];omega
    ·have d3:=SELF.out.2.resolve_left hz;go_wp2_with fail
     refine cF.mono ?_;rintro e w5 ⟨v5,rfl,o5,b5⟩;obtain ⟨A5,c5,v6,w6,rfl,hrun,ho6,hb6⟩:=TAIL.out w5 v5 o5 b5;have R1:=hid hrun;have NX:=hid (And.intro ho6 hb6);clear cF TAIL hrun ho6 hb6 o5 b5 c2 c3 q3;go_wp2_with (at_builtin;(refine g0e rfl (.tmp 160) (.tmp 161) _ rfl rfl rfl R1.out ?_;clear R1))
     go_roundw
     case rel=>exact ⟨1,by go_num,by rw [HS3.out],by omega,NX⟩
     case measure=>simp [intOf];omega
  ·have tq:(0:Int)<(k:Int):=by omega
   have hw1:IntKind.i64.wrap ((k:Int)-1)=(q:Int):=by rw [IntWalk.i64_in _ (by have:=hok.kids;have:=HN.out;omega)];omega
   have tqK:(q:Int)<(K:Int):=by omega
   have tq0:(0:Int)<=(q:Int):=by omega
   rw [hA] at c2;rcases husel with ⟨hnk,hUZ⟩ | ⟨hkK,b',o',hA',hcu⟩
   ·have tk:¬ (k:Int)<(K:Int):=by omega
    rw [hUZ] at cF;clear hnk hkq hqK hA
    by_cases hz:Z.toList=[]
    ·clear d2;go_wp2_with fail
     refine cF.mono ?_;rintro e w5 ⟨v5,rfl,o5,b5⟩;obtain ⟨A5,c5,v6,w6,rfl,hrun,ho6,hb6⟩:=TAIL.out w5 v5 o5 b5;have R1:=hid hrun;have NX:=hid (And.intro ho6 hb6);clear cF TAIL hrun ho6 hb6 o5 b5 c2 c3 q3;go_wp2_with (at_builtin;(refine g0e rfl (.tmp 160) (.tmp 161) _ rfl rfl rfl R1.out ?_;clear R1))
     go_roundw
     case rel=>exact ⟨k+1,by go_num,by rw [HS3.out],by omega,NX⟩
     case measure=>simp [intOf];omega
    ·have d3:=d2.resolve_left hz;clear d2;go_wp2_with fail
     refine cF.mono ?_;rintro e w5 ⟨v5,rfl,o5,b5⟩;obtain ⟨A5,c5,v6,w6,rfl,hrun,ho6,hb6⟩:=TAIL.out w5 v5 o5 b5;have R1:=hid hrun;have NX:=hid (And.intro ho6 hb6);clear cF TAIL hrun ho6 hb6 o5 b5 c2 c3 q3;go_wp2_with (at_builtin;(refine g0e rfl (.tmp 160) (.tmp 161) _ rfl rfl rfl R1.out ?_;clear R1))
     go_roundw
     case rel=>exact ⟨k+1,by go_num,by rw [HS3.out],by omega,NX⟩
     case measure=>simp [intOf];omega
   ·have tk:(k:Int)<(K:Int):=by omega
    rw [hA] at hA';cases hA';clear hkK hkq hqK hA
    by_cases hz:Z.toList=[]
    ·clear d2;go_wp2_with fail
     refine cF.mono ?_;rintro e w5 ⟨v5,rfl,o5,b5⟩;obtain ⟨A5,c5,v6,w6,rfl,hrun,ho6,hb6⟩:=TAIL.out w5 v5 o5 b5;have R1:=hid hrun;have NX:=hid (And.intro ho6 hb6);clear cF TAIL hrun ho6 hb6 o5 b5 c2 c3 q3;go_wp2_with (at_builtin;(refine g0e rfl (.tmp 160) (.tmp 161) _ rfl rfl rfl R1.out ?_;clear R1))
     go_roundw
     case rel=>exact ⟨k+1,by go_num,by rw [HS3.out],by omega,NX⟩
     case measure=>simp [intOf];omega
    ·have d3:=d2.resolve_left hz;clear d2;go_wp2_with fail
     refine cF.mono ?_;rintro e w5 ⟨v5,rfl,o5,b5⟩;obtain ⟨A5,c5,v6,w6,rfl,hrun,ho6,hb6⟩:=TAIL.out w5 v5 o5 b5;have R1:=hid hrun;have NX:=hid (And.intro ho6 hb6);clear cF TAIL hrun ho6 hb6 o5 b5 c2 c3 q3;go_wp2_with (at_builtin;(refine g0e rfl (.tmp 160) (.tmp 161) _ rfl rfl rfl R1.out ?_;clear R1))
     go_roundw
     case rel=>exact ⟨k+1,by go_num,by rw [HS3.out],by omega,NX⟩
     case measure=>simp [intOf];omega
theorem k7l {w:World} {B:Blk} {d:St} {t:T} {a:Lys} (h:Sto w B d t a) {n:Int} {p:Pg} (hp:PgAt d n 2 p) (L:List Held) (hl:L.length=p.kids.length) (hb:g3q p.keys L) (lo hi:Disk.Bs) (hr:InR lo hi (L.flatMap (·.1)))
 (hne:∀ z∈L,z.1≠[]) (hlo:hi≠[]->Lt lo hi) (hroot:6<=p.keys.length) (m:Nat) (hm:m+2<=20) (hc1:(L.flatMap (·.1)).length<=100000) (hc2:(L.flatMap (·.2)).length<=100000)
 (ih:∀ (i:Nat) (hi':i<L.length) (x:Int) (W:World),p.kids[i]?=some x->Below w.heap.size w W ->
   Calls Tryz.prog 58 #[ptr B.ss,.int .i64 x,.int .i64 ((m+1:Nat):Int),strV (lowK p.keys lo i),strV (h2b p.keys hi i),.bool false] W (h9r L[i].2 L[i].1.length W)) :
 Calls Tryz.prog 58 #[ptr B.ss,.int .i64 n,.int .i64 ((m+2:Nat):Int),strV lo,strV hi,.bool false] w (h9r (n :: L.flatMap (·.2)) (L.flatMap (·.1)).length w):=by
 have cP:=Store.g9c h n;have HK:=hid (g3c hp);have K1:=hid (((Page.g7x hp.2.2).1 (g2l hp)).1.len.1);obtain ⟨h0,h1,h2⟩:=hp;have H0:=hid h0;have H1:=hid h1;have H2:=hid h2;have HLO:=hid (fun (i:Nat) (h':i<L.length)=>k9y hb (by rw [hl];exact HK.out) hr hne hlo h');have IH:=hid ih;have HHL:=hid hlo;have HL:=hid hl;have HC1:=hid hc1;have HC2:=hid hc2;obtain ⟨X,hX⟩:∃ X,strB lo=X:=⟨_,rfl⟩
 obtain ⟨Z,hZ⟩:∃ Z,strB hi=Z:=⟨_,rfl⟩;rw [show strV lo=.string X by rw [<- hX],show strV hi=.string Z by rw [<- hZ]];have HX:=hid hX;have HZ:=hid hZ;have hzl:Z.toList=hi:=by rw [<- hZ,g0m]
 have HZL:=hid hzl;obtain ⟨D,hD⟩:∃ D,((m+2:Nat):Int)=D:=⟨_,rfl⟩;obtain ⟨E,hE⟩:∃ E,((m+1:Nat):Int)=E:=⟨_,rfl⟩;rw [hE] at IH;rw [hD];have g1:¬ D<1:=by omega
 have g2:¬ 20<D:=by omega
 have g3:(D==1)=false:=beq_eq_false_iff_ne.2 (by omega);have HDE:=hid (show IntKind.i64.wrap (D-1)=E from by rw [IntWalk.i64_in _ (by omega)];omega);clear h0 h1 h2 hr hX hZ h hl hb hne hlo ih hc1 hc2 hzl hD hE hm;go_enter Tryz.func58,Tryz.ntmps58
 go_wp2_with fail
 refine cP.mono ?_;rintro e w1 ⟨b1,⟨hne,-⟩ | ⟨-,⟨p',y,rfl,hrows,hok,hq,-,hnew⟩ | ⟨-,hno⟩⟩⟩
 ·exact absurd H0.out hne
 rotate_left
 ·exact absurd (hno p H1.out) (by have:=H2.out;omega)
 obtain rfl:=Page.g6u H1.out hq;have P1:=hid (g1s w1 p y);have b2:=Pool.g0a w1 (.cells (pgC p y) 103);have a2:=at_new w1 (pgC p y) 103;obtain ⟨pv,hpv⟩:∃ pv,pgV p y=pv:=⟨_,rfl⟩;rw [hpv] at P1;rw [hpv];obtain ⟨W8,hW8⟩:∃ W8,w1.alloc (.cells (pgC p y) 103)=W8:=⟨_,rfl⟩;rw [hW8] at P1 b2 a2;have A2:=hid a2;have B2:=hid (b1.trans (b2.mono b1.size));have R2:=hid (hrows.below b2);obtain ⟨pb,hpb⟩:∃ pb,w1.heap.size=pb:=⟨_,rfl⟩
 have EP:=hid hpb;have b9:=Pool.g0a W8 (.cells #[.int .i64 n] 3);have O9:=hid (show OwnI (W8.alloc (.cells #[.int .i64 n] 3)) W8.heap.size (.slice (some ⟨W8.heap.size,0,none⟩) 1 1) [n] from ⟨rfl,.inr ⟨W8.heap.size,1,#[numV n],rfl,Nat.le_refl _,heap_alloc_last W8 _,Nat.le_refl _,by unfold maxLen;omega,rfl,rfl⟩⟩);have BB9:=hid b9;have A9:=A2.out.below b9 A2.out.1;obtain ⟨W9,hW9⟩:∃ W9,W8.alloc (.cells #[.int .i64 n] 3)=W9:=⟨_,rfl⟩
 rw [hW9] at O9 BB9 A9;obtain ⟨v9,hv9⟩:∃ v9,Value.slice (some ⟨W8.heap.size,0,none⟩) 1 1=v9:=⟨_,rfl⟩;rw [hv9] at O9;obtain ⟨N,hN⟩:∃ N,p.kids.length=N:=⟨_,rfl⟩;obtain ⟨K,hK⟩:∃ K,p.keys.length=K:=⟨_,rfl⟩;have HN:=hid hN;have HKK:=hid hK;have ck:W9.cell? ⟨w1.heap.size,0,none⟩=some (.int .i64 2):=by rw [<- H2.out];exact A9.2.2 0 _ rfl
 have c2:W9.cell? ⟨w1.heap.size,2,none⟩=some (.slice y.A2 K y.c2):=by rw [<- hK];exact A9.2.2 2 _ rfl
 have c3:W9.cell? ⟨w1.heap.size,3,none⟩=some (.slice y.A3 N y.c3):=by rw [<- hN];exact A9.2.2 3 _ rfl
 rw [hK] at hroot;clear hpv b1 b2 a2 cP hrows hW8 hnew hq b9 A9 hN hK;have k6:decide ((K:Int)<6)=false:=decide_eq_false (by omega);have FROM:=hid (And.intro A2.out R2.out);have CC:=hid (And.intro c2 c3);rw [hpb] at FROM CC;clear hpb A2 R2 hroot;go_wp2_with (first | ((with_reducible refine Disk.g0b rfl 103 (.tmp 15) (.tmp 30) rfl _ _ ?_ ?_ P1.out ?_);(next=>rfl);(next=>rfl)))
 rw [EP.out]
 try rw [hW9]
 try rw [hv9]
 clear hW9 hv9 P1 EP ck c2 c3;go_loopw [17,19,20] (fun v cn i wr=>∃ k:Nat,i=.int .i64 (k:Int)/\cn=.int .i64 (((L.take k).flatMap (·.1)).length:Int)/\k<=N/\Hid (OwnI wr W8.heap.size v (n :: (L.take k).flatMap (·.2))/\Below W8.heap.size W8 wr)) (fun _ _ i _=>N-(intOf i).toNat)
 case atStart=>exact ⟨0,rfl,rfl,Nat.zero_le _,hid ⟨O9.out,BB9.out⟩⟩
 case round =>
  obtain ⟨k,rfl,rfl,hk,HB⟩:=hrel;clear O9 BB9;obtain ⟨ho,hbw⟩:=HB.out;have A:=FROM.out.1.below hbw FROM.out.1.1;have R:=FROM.out.2.below hbw;have c3:wr.cell? ⟨pb,3,none⟩=some (.slice y.A3 N y.c3):=by rw [<- HN.out];exact A.2.2 3 _ rfl
  by_cases hlt:k<N
  rotate_left
  ·obtain rfl:k=N:=by omega
   have e1:(L.take k)=L:=List.take_of_length_le (by have:=HL.out;have:=HN.out;omega);rw [e1] at ho ⊢;have FIN:=hid (And.intro ho (B2.out.trans (hbw.mono B2.out.size)));clear ho hbw HB A R hlt hk;go_wp2_with fail
   refine bodyPost_ret (g2a rfl) rfl ?_;exact ⟨_,rfl,Pool.g2g FIN.out.1 B2.out.size,FIN.out.2⟩
  have hkL:k<L.length:=by have:=HL.out;have:=HN.out;omega
  have hkk:k<p.kids.length:=by have:=HN.out;omega
  obtain ⟨b3,o3,hA3,hb3,hc3⟩:=R.r3 (by intro e;rw [e] at hkk;simp at hkk);rw [hA3] at c3;obtain ⟨x,hx⟩:∃ x,p.kids[k]=x:=⟨_,rfl⟩;have q3:wr.cell? ⟨b3,o3+k,none⟩=some (.int .i64 x):=by rw [<- hx];exact hc3 k hkk
  have c2:wr.cell? ⟨pb,2,none⟩=some (.slice y.A2 K y.c2):=by rw [<- HKK.out];exact A.2.2 2 _ rfl
  have cF:=IH.out k hkL x wr (by rw [List.getElem?_eq_getElem hkk,hx]) (B2.out.trans (hbw.mono B2.out.size));have hlow:=HLO.out k hkL;obtain ⟨LB,hLB⟩:∃ LB,strB (lowK p.keys lo k)=LB:=⟨_,rfl⟩;obtain ⟨UB,hUB⟩:∃ UB,strB (h2b p.keys hi k)=UB:=⟨_,rfl⟩;rw [show strV (lowK p.keys lo k)=.string LB by rw [<- hLB],show strV (h2b p.keys hi k)=.string UB by rw [<- hUB]] at cF;have d1:Op.bytesLess LB.toList X.toList=false:=by
   rw [<- hLB,<- HX.out,g0m,g0m];exact j3c hlow.1
  have d2:Z.toList=[]\/Op.bytesLess LB.toList Z.toList=true:=by
   by_cases hz:Z.toList=[]
   ·exact .inl hz
   ·right
    rw [<- hLB,g0m,HZL.out];exact hlow.2 (by rw [<- HZL.out];exact hz)
  obtain ⟨s,hs⟩:∃ s,((L.take k).flatMap (·.1)).length=s:=⟨_,rfl⟩;obtain ⟨s2,hs2⟩:∃ s2,L[k].1.length=s2:=⟨_,rfl⟩;have hs3:((L.take (k+1)).flatMap (·.1)).length=s+s2:=by rw [g6h hkL,List.length_append,hs,hs2]
  have l1:=h4a (·.1) L (k+1);have l2:=h4a (·.2) L (k+1);have l3:((L.take (k+1)).flatMap (·.2)).length=((L.take k).flatMap (·.2)).length+L[k].2.length:=by rw [g6h hkL,List.length_append]
  have hcw:IntKind.i64.wrap ((s:Int)+(s2:Int))=(((L.take (k+1)).flatMap (·.1)).length:Int):=by
   have:=HC1.out;rw [IntWalk.i64_in _ (by omega)];omega
  have hwr:IntKind.i64.wrap ((k:Int)+1)=(k:Int)+1:=IntWalk.i64_in _ (by have:=HL.out;have:=HN.out;have:=hok.kids;omega);have hap:=hid (show ((n :: (L.take k).flatMap (·.2)):List Int).length+L[k].2.length<=100001 by have:=HC2.out;rw [List.length_cons];omega);rw [hs2] at cF;rw [hs];have t1:(k:Int)<(N:Int):=by omega
  have t2:(0:Int)<=(k:Int):=by omega
  have HO:=hid (And.intro ho hbw);have E2:=hid (g6h (f:=(·.2)) hkL);have hkey:∀ j (h:j<p.keys.length),∃ b o,y.A2=some ⟨b,o,none⟩/\wr.cell? ⟨b,o+j,none⟩=some (strV p.keys[j]):=fun j h=>by
   obtain ⟨b,o,e,-,hc⟩:=R.r2 (by intro e;rw [e] at h;simp at h);exact ⟨b,o,e,hc j h⟩
  have hsel:(k=0/\LB=X\/∃ q b o,k=q+1/\q<K/\y.A2=some ⟨b,o,none⟩/\wr.cell? ⟨b,o+q,none⟩=some (.string LB)):=by
   by_cases h0:k=0
   ·exact .inl ⟨h0,by rw [<- hLB,<- HX.out,h0];rfl⟩
   ·right
    obtain ⟨q,rfl⟩:∃ q,k=q+1:=⟨k-1,by omega⟩;have hq:q<p.keys.length:=by have:=HK.out;omega
    obtain ⟨b,o,e,hc⟩:=hkey q hq;refine ⟨q,b,o,rfl,by have:=HKK.out;omega,e,?_⟩;rw [hc,<- hLB,lowK,if_pos (by omega),show q+1-1=q by omega,List.getElem?_eq_getElem hq]
    rfl
  have husel:(¬ k<K/\UB=Z)\/(k<K/\∃ b o,y.A2=some ⟨b,o,none⟩/\wr.cell? ⟨b,o+k,none⟩=some (.string UB)):=by
   by_cases h0:k<K
   ·right
    have hq:k<p.keys.length:=by have:=HKK.out;omega
    obtain ⟨b,o,e,hc⟩:=hkey k hq;refine ⟨h0,b,o,e,?_⟩;rw [hc,<- hUB,h2b,if_pos hq,List.getElem?_eq_getElem hq]
    rfl
   ·refine .inl ⟨h0,?_⟩;rw [<- hUB,<- HZ.out,h2b,if_neg (by have:=HKK.out;omega)]
  have DE:=HDE.out;have TAIL:=hid (show ∀ (w5:World) (v5:Value),OwnI w5 wr.heap.size v5 L[k].2->Below wr.heap.size wr w5->∃ A5 c5 v6 w6,v5=.slice A5 L[k].2.length c5/\(Builtin.append_ #[66,66] 66 #[u17,.slice A5 L[k].2.length c5]).run Tryz.prog w5=.ok v6 w6 /\
   OwnI w6 W8.heap.size v6 (n :: (L.take (k+1)).flatMap (·.2))/\Below W8.heap.size W8 w6 from fun w5 v5 o5 b5=>by
   obtain ⟨A5,c5,rfl,n5,-,-,r5⟩:=o5.row;have ho5:=HO.out.1.kept b5;have hb5:=HO.out.2.trans (b5.mono HO.out.2.size);obtain ⟨v6,w6,hrun,ho6,hg6,_⟩:=g1x g2p w5 W8.heap.size _ _ ho5 A5 L[k].2.length c5 L[k].2 rfl n5 r5 (by have:=hap.out;omega) hb5.size;rw [List.cons_append,<- E2.out] at ho6;exact ⟨A5,c5,v6,w6,rfl,hrun,ho6,below_grown hb5 ho5 hg6 hb5.size⟩)
  obtain ⟨F2,hF2⟩:∃ F2,L[k].2=F2:=⟨_,rfl⟩;obtain ⟨m2,hm2⟩:∃ m2,F2.length=m2:=⟨_,rfl⟩;rw [hF2,hm2] at TAIL;rw [hF2] at cF;obtain ⟨s3,hs4⟩:∃ s3,((L.take (k+1)).flatMap (·.1)).length=s3:=⟨_,rfl⟩;rw [hs4] at hcw;have HS3:=hid hs4;clear hs4 hs3 l1 l2 l3 hs hs2 hkey hlow hLB hUB hc3 hA3 hb3 ho hbw A R HB hap hx hF2 hm2 HO E2 hkL hkk;have SELF:=hid (show Op.bytesLess X.toList X.toList=false/\(Z.toList=[]\/Op.bytesLess X.toList Z.toList=true) from ⟨by rw [<- HX.out,g0m];exact g2q lo,by
   rcases hsel with ⟨-,e⟩ | ⟨_,_,_,h',_⟩
   ·rw [<- e];exact d2
   ·by_cases hz:Z.toList=[]
    ·exact .inl hz
    ·right
     rw [<- HX.out,g0m,HZL.out];exact HHL.out (by rw [<- HZL.out];exact hz)⟩)
  rcases hsel with ⟨h0,hLX⟩ | ⟨q,b,o,hkq,hqK,hA,hcq⟩
  ·rcases husel with ⟨hnk,hUZ⟩ | ⟨hkK,b',o',hA',hcu⟩
   ·exfalso
    have:=K1.out;have:=HKK.out;omega
   ·subst h0;rw [hLX] at cF;rw [hA'] at c2;clear hA';have hcu:wr.cell? ⟨b',o',none⟩=some (.string UB):=hcu;have q3:wr.cell? ⟨b3,o3,none⟩=some (.int .i64 x):=q3;have tk:(0:Int)<(K:Int):=by omega
    have t1:(0:Int)<(N:Int):=by omega
    have hcw:IntKind.i64.wrap ((s:Int)+(s2:Int))=(s3:Int):=hcw;clear hLX d1 d2 t2 hwr;have d1:Op.bytesLess X.toList X.toList=false:=SELF.out.1
    by_cases hz:Z.toList=[]
    ·skip
     go_wp2_with fail
     refine cF.mono ?_;rintro e w5 ⟨v5,rfl,o5,b5⟩;obtain ⟨A5,c5,v6,w6,rfl,hrun,ho6,hb6⟩:=TAIL.out w5 v5 o5 b5;have R1:=hid hrun;have NX:=hid (And.intro ho6 hb6);clear cF TAIL hrun ho6 hb6 o5 b5 c2 c3 q3;go_wp2_with (at_builtin;(refine g0e rfl (.tmp 160) (.tmp 161) _ rfl rfl rfl R1.out ?_;clear R1))
     go_roundw
     case rel=>exact ⟨1,by go_num,by rw [HS3.out],by omega,NX⟩
     case measure=>simp [intOf];omega
    ·have d3:=SELF.out.2.resolve_left hz;go_wp2_with fail
     refine cF.mono ?_;rintro e w5 ⟨v5,rfl,o5,b5⟩;obtain ⟨A5,c5,v6,w6,rfl,hrun,ho6,hb6⟩:=TAIL.out w5 v5 o5 b5;have R1:=hid hrun;have NX:=hid (And.intro ho6 hb6);clear cF TAIL hrun ho6 hb6 o5 b5 c2 c3 q3;go_wp2_with (at_builtin;(refine g0e rfl (.tmp 160) (.tmp 161) _ rfl rfl rfl R1.out ?_;clear R1))
     go_roundw
     case rel=>exact ⟨1,by go_num,by rw [HS3.out],by omega,NX⟩
     case measure=>simp [intOf];omega
  ·have tq:(0:Int)<(k:Int):=by omega
   have hw1:IntKind.i64.wrap ((k:Int)-1)=(q:Int):=by rw [IntWalk.i64_in _ (by have:=hok.kids;have:=HN.out;omega)];omega
   have tqK:(q:Int)<(K:Int):=by omega
   have tq0:(0:Int)<=(q:Int):=by omega
   rw [hA] at c2;rcases husel with ⟨hnk,hUZ⟩ | ⟨hkK,b',o',hA',hcu⟩
   ·have tk:¬ (k:Int)<(K:Int):=by omega
    rw [hUZ] at cF;clear hnk hkq hqK hA
    by_cases hz:Z.toList=[]
    ·clear d2;go_wp2_with fail
     refine cF.mono ?_;rintro e w5 ⟨v5,rfl,o5,b5⟩;obtain ⟨A5,c5,v6,w6,rfl,hrun,ho6,hb6⟩:=TAIL.out w5 v5 o5 b5;have R1:=hid hrun;have NX:=hid (And.intro ho6 hb6);clear cF TAIL hrun ho6 hb6 o5 b5 c2 c3 q3;go_wp2_with (at_builtin;(refine g0e rfl (.tmp 160) (.tmp 161) _ rfl rfl rfl R1.out ?_;clear R1))
     go_roundw
     case rel=>exact ⟨k+1,by go_num,by rw [HS3.out],by omega,NX⟩
     case measure=>simp [intOf];omega
    ·have d3:=d2.resolve_left hz;clear d2;go_wp2_with fail
     refine cF.mono ?_;rintro e w5 ⟨v5,rfl,o5,b5⟩;obtain ⟨A5,c5,v6,w6,rfl,hrun,ho6,hb6⟩:=TAIL.out w5 v5 o5 b5;have R1:=hid hrun;have NX:=hid (And.intro ho6 hb6);clear cF TAIL hrun ho6 hb6 o5 b5 c2 c3 q3;go_wp2_with (at_builtin;(refine g0e rfl (.tmp 160) (.tmp 161) _ rfl rfl rfl R1.out ?_;clear R1))
     go_roundw
     case rel=>exact ⟨k+1,by go_num,by rw [HS3.out],by omega,NX⟩
     case measure=>simp [intOf];omega
   ·have tk:(k:Int)<(K:Int):=by omega
    rw [hA] at hA';cases hA';clear hkK hkq hqK hA
    by_cases hz:Z.toList=[]
    ·clear d2;go_wp2_with fail
     refine cF.mono ?_;rintro e w5 ⟨v5,rfl,o5,b5⟩;obtain ⟨A5,c5,v6,w6,rfl,hrun,ho6,hb6⟩:=TAIL.out w5 v5 o5 b5;have R1:=hid hrun;have NX:=hid (And.intro ho6 hb6);clear cF TAIL hrun ho6 hb6 o5 b5 c2 c3 q3;go_wp2_with (at_builtin;(refine g0e rfl (.tmp 160) (.tmp 161) _ rfl rfl rfl R1.out ?_;clear R1))
     go_roundw
     case rel=>exact ⟨k+1,by go_num,by rw [HS3.out],by omega,NX⟩
     case measure=>simp [intOf];omega
    ·have d3:=d2.resolve_left hz;clear d2;go_wp2_with fail
     refine cF.mono ?_;rintro e w5 ⟨v5,rfl,o5,b5⟩;obtain ⟨A5,c5,v6,w6,rfl,hrun,ho6,hb6⟩:=TAIL.out w5 v5 o5 b5;have R1:=hid hrun;have NX:=hid (And.intro ho6 hb6);clear cF TAIL hrun ho6 hb6 o5 b5 c2 c3 q3;go_wp2_with (at_builtin;(refine g0e rfl (.tmp 160) (.tmp 161) _ rfl rfl rfl R1.out ?_;clear R1))
     go_roundw
     case rel=>exact ⟨k+1,by go_num,by rw [HS3.out],by omega,NX⟩
     case measure=>simp [intOf];omega
end Go.Proofs.YtglejnkoojpelaaGreat.Tree
