import Derived.Test.YtbhfammnffecoaaGreatMT13
import Derived.Test.YtbhfammnffecoaaGreatOT1
set_option maxRecDepth 100000
set_option maxHeartbeats 32000000
namespace Go.Proofs.YtbhfammnffecoaaGreat.Tree
open Go.RowKit Gen
open Disk (St Dev Mod ptr)
open Page (Pg Lay PgOk PgRows pgC pgV Enc IsDec BytesAt strV strB PRow less Lt Rises KeyOk)
open Pool (Po NAt PoAt La poC poV numV At takeP giveP backP Fresh PoolOk OwnI chunks layAll May)
open Store
open Lib (hid)
structure Side2 (w1:World) (Ba Bb:Blk) (ta tb mb:Nat):Prop where
 a:∀ x∈tall ta Ba,w1.heap.size<=x/\x<mb/\x∉tall tb Bb
 b:∀ x∈tall tb Bb,x∈Ba.xs/\x∉tall ta Ba/\w1.heap.size<=x/\x<mb
 m:w1.heap.size<=mb
theorem two_new {w1 w2 w3:World} {Ba Bb:Blk} {ta tb:Nat} (ha:Empty w1 w2 Ba ta) (hb:Empty w2 w3 Bb tb) :
 Both w1 (w3.alloc (.cells #[.slice none 0 0] 29)) (withXs Ba (w3.heap.size :: tall tb Bb)) ta w3.heap.size w3.heap.size 0 []/\Empty w1 (w3.alloc (.cells #[.slice none 0 0] 29)) Bb tb/\Side2 w1 (withXs Ba (w3.heap.size :: tall tb Bb)) Bb ta tb w3.heap.size:=by
 have bm:=Pool.below_box w3 (.cells #[.slice none 0 0] 29);have a:=at_new w3 #[.slice none 0 0] 29;have la:=ha.lt;have lb:=hb.lt;have h12:Below w1.heap.size w1 w2:=by
  obtain ⟨d,a,h1,h2,-⟩:=ha;exact h2
 have h23:Below w2.heap.size w2 w3:=by
  obtain ⟨d,a,h1,h2,-⟩:=hb;exact h2
 have s12:=h12.size;have s23:=h23.size;have b24:Below w2.heap.size w2 (w3.alloc (.cells #[.slice none 0 0] 29)):=h23.trans (bm.mono h23.size);have hX:∀ x∈w3.heap.size :: tall tb Bb,w2.heap.size<=x/\x<(w3.alloc (.cells #[.slice none 0 0] 29)).heap.size:=fun x hx=>by
  rcases List.mem_cons.1 hx with rfl | hx
  ·exact ⟨s23,a.1⟩
  ·have:=lb x hx;have h4:=a.1;exact ⟨this.1,by omega⟩
 have hh:=ha.hand.withxs b24 (w3.heap.size :: tall tb Bb) hX;refine ⟨⟨hh,⟨Nat.le_refl _,none,0,a,fun h=>absurd rfl h,fun _=>rfl,Nat.le_refl _,fun x e=>by cases e⟩,fun x hx=>?_,by simp,by omega⟩,?_,⟨fun x hx=>?_,fun x hx=>?_,by omega⟩⟩
 ·have:=la x hx;omega
 ·refine (hb.base h12).mod (S:=[]) (Mod.of_below [] bm) (fun x hx=>by cases hx)
 ·have h1:=la x hx;exact ⟨h1.1,by omega,fun e=>by have:=lb x e;omega⟩
 ·have h1:=lb x hx;exact ⟨List.mem_append_left _ (List.mem_cons_of_mem _ hx),fun e=>by have:=la x e;omega,by omega,h1.2⟩
theorem Both.beside {w1 w w':World} {Ba Bb:Blk} {ta tb mb k:Nat} {es:Ents} (h:Both w1 w Ba ta mb mb k es) (s:Side2 w1 Ba Bb ta tb mb) (m:Mod (tall tb Bb) w w'):Both w1 w' Ba ta mb mb k es :=
 ⟨h.hand.touches (fun x hx=>⟨(s.b x hx).1,(s.b x hx).2.1,(s.b x hx).2.2.1⟩) m,h.map.mod m (fun x hx=>(s.b x hx).2.2.2),h.low,h.mem,h.new⟩
theorem Empty.beside {w1 w w':World} {Ba Bb:Blk} {ta tb mb:Nat} (h:Empty w1 w Bb tb) (s:Side2 w1 Ba Bb ta tb mb) (m:Mod (mb :: tall ta Ba) w w'):Empty w1 w' Bb tb :=
 h.mod m (fun x hx=>by
  rcases List.mem_cons.1 hx with rfl | hx
  ·exact ⟨fun e=>by have:=(s.b _ e).2.2.2;omega,s.m⟩
  ·exact ⟨(s.a x hx).2.2,(s.a x hx).1⟩)
theorem order_walk {A:Option Addr} {n c:Nat} {l:List CallT} (W:World) (hl:l.length=n) (hs:Script W A l) :
 Calls Tryz.prog 10 #[.slice A n c] W fun e W'=>e=.returned (.bool true)/\Below W.heap.size W W':=by
 have cA:=awake_any W;have HL:=hid hl;have HS:=hid hs;clear hl hs;go_enter Tryz.func10,Tryz.ntmps10
 go_wp2_with fail
 refine cA.mono ?_;rintro e w1 ⟨rfl,b1⟩;have cN:=new_empty w1;have B1:=hid b1;clear b1 cA;go_wp2_with fail
 refine cN.mono ?_;rintro e w2 ⟨Ba,ta,rfl,ha,-⟩;have HA:=hid ha;have cM:=new_empty w2;clear ha cN;go_wp2_with fail
 refine cM.mono ?_;rintro e w3 ⟨Bb,tb,rfl,hb,-⟩;obtain ⟨t1,t2,t3⟩:=two_new HA.out hb;obtain ⟨mb,hmb⟩:∃ mb,w3.heap.size=mb:=⟨_,rfl⟩;obtain ⟨w4,hw4⟩:∃ w4,w3.alloc (.cells #[.slice none 0 0] 29)=w4:=⟨_,rfl⟩;have EM:=hid hmb;have EW:=hid hw4;rw [hw4,hmb] at t1;rw [hw4] at t2;rw [hmb] at t3;obtain ⟨B',hB⟩:∃ B',withXs Ba (mb :: tall tb Bb)=B':=⟨_,rfl⟩;rw [hB] at t1 t3;have BO:=hid t1;have EB:=hid t2;have SD:=hid t3
 clear HA hb hB cM hmb hw4 t1 t2 t3;go_wp2_with fail
 rw [EM.out,EW.out];clear EM EW;go_loopw [7] (fun i wr=>∃ k:Nat,i=.int .i64 (k:Int)/\k<=n/\k<=100/\Hid (∃ es,Both w1 wr B' ta mb mb k es/\Empty w1 wr Bb tb)) (fun i _=>n-(intOf i).toNat)
 case atStart=>exact ⟨0,rfl,Nat.zero_le _,Nat.zero_le _,hid ⟨_,BO.out,EB.out⟩⟩
 case round =>
  obtain ⟨k,rfl,hk,hk2,HB⟩:=hrel;clear BO EB;have hwr:IntKind.i64.wrap ((k:Int)+1)=(k:Int)+1:=IntWalk.i64_in _ (by omega)
  by_cases hgo:k<n/\k<100
  rotate_left
  ·obtain ⟨es,hb,he⟩:=HB.out;obtain ⟨N,hN⟩:∃ N,es.length=N:=⟨_,rfl⟩;have HN:=hid hN;have HN2:N<=100:=by rw [<- hN];exact Nat.le_trans hb.hand.few hk2
   have H0:=hid (show Both w1 wr B' ta mb mb 100 es/\Hand w1 wr Bb tb (N-N) (es.drop N) from ⟨hb.more hk2,by rw [<- hN,List.drop_length,Nat.sub_self];exact he.hand⟩);have SRT:=hid hb.hand.sorted;have OKS:=hid hb.hand.ok;obtain ⟨A0,c0,z1,-⟩:=hb.map.row;rw [hN] at z1;have z2:wr.cell? ⟨mb,0,none⟩=some (.slice A0 N c0):=z1.2.2 0 _ rfl;have hwN:IntKind.i64.wrap ((N:Int)-1)=(N:Int)-1:=IntWalk.i64_in _ (by omega)
   clear hb he HB hN hwr z1
   by_cases hkn:k<n
   ·have t1:(k:Int)<(n:Int):=by omega
    have t2:¬ (k:Int)<100:=by omega
    clear hgo hkn;go_wp2_with fail
    clear z2;go_loopw [9] (fun i wr=>∃ v:Int,i=.int .i64 v/\-1<=v/\v<(N:Int)/\Hid (Both w1 wr B' ta mb mb 100 es/\Hand w1 wr Bb tb (N-(v+1).toNat) (es.drop (v+1).toNat))) (fun i _=>(intOf i+1).toNat)
    case atStart=>exact ⟨(N:Int)-1,rfl,by omega,by omega,hid (by rw [show ((N:Int)-1+1).toNat=N by omega];exact H0.out)⟩
    case round =>
     obtain ⟨v,rfl,hv1,hv2,HB⟩:=hrel;clear H0
     by_cases hv:0<=v
     ·obtain ⟨p,rfl⟩:∃ p:Nat,v=(p:Int):=⟨v.toNat,by omega⟩;have hpN:p<N:=by omega
      have hpl:p<es.length:=by rw [HN.out];exact hpN
      have hwp:IntKind.i64.wrap ((p:Int)-1)=(p:Int)-1:=IntWalk.i64_in _ (by omega);have HAH:=hid HB.out.1;have EST:=hid (set_ahead SRT.out hpl);have HBH:=hid (show Hand w1 wr Bb tb (N-(p+1)) (es.drop (p+1)) from by have:=HB.out.2;rw [show ((p:Int)+1).toNat=p+1 by omega] at this;exact this);obtain ⟨o1,o2⟩:=OKS.out _ (List.getElem_mem hpl);have cS:=set_run (HBH.out.quiet (Below.refl _ _).drew) (by omega) es[p].1 es[p].2 o1.1 o1.2 o2
      rw [EST.out] at cS;obtain ⟨A1,c1,z1,z3,-⟩:=HAH.out.map.row;rw [HN.out] at z1;obtain ⟨b,off,rfl,hbl,hcl⟩:=z3 (by intro e;rw [e] at hpl;simp at hpl);obtain ⟨q1,q2⟩:=hcl p hpl;obtain ⟨kv,hkv⟩:∃ kv,strV es[p].1=kv:=⟨_,rfl⟩;obtain ⟨vv,hvv⟩:∃ vv,strV es[p].2=vv:=⟨_,rfl⟩;rw [hkv] at q1 cS;rw [hvv] at q2 cS;have z2:wr.cell? ⟨mb,0,none⟩=some (.slice (some ⟨b,off,none⟩) N c1):=z1.2.2 0 _ rfl;have K0:=hid (show wr.drew.cell? ⟨mb,0,none⟩=some (.slice (some ⟨b,off,none⟩) N c1)/\wr.drew.cell? ⟨b,off+p*2,none⟩=some kv/\wr.drew.cell? ⟨b,off+p*2+1,none⟩=some vv from ⟨z2,q1,q2⟩)
      have KM:=hid (show ∀ w',Mod (tall tb Bb) wr.drew w'->w'.cell? ⟨mb,0,none⟩=some (.slice (some ⟨b,off,none⟩) N c1)/\w'.cell? ⟨b,off+p*2,none⟩=some kv/\w'.cell? ⟨b,off+p*2+1,none⟩=some vv from fun w' m=>by
       obtain ⟨A2,c2,y1,y2,-,-,y3⟩:=(HAH.out.quiet (Below.refl _ _).drew).map.row;have hm:mb∉tall tb Bb:=fun e=>by have:=(SD.out.b _ e).2.2.2;omega
       have e1:=y1.2.2 0 _ rfl;rw [HN.out,K0.out.1] at e1;have e2:A2=some ⟨b,off,none⟩:=by cases e1;rfl
       have hbb:b∉tall tb Bb:=fun e=>by have h1:=(SD.out.b _ e).2.2.2;have h2:=(y3 _ e2).1;simp only at h2;omega
       exact ⟨(m.cell (p:=⟨mb,0,none⟩) y1.1 hm).trans K0.out.1,(m.cell (p:=⟨b,off+p*2,none⟩) hbl hbb).trans K0.out.2.1,(m.cell (p:=⟨b,off+p*2+1,none⟩) hbl hbb).trans K0.out.2.2⟩)
      have t4:(p:Int)<(N:Int):=by omega
      have t5:(0:Int)<=(p:Int):=by omega
      clear HB hkv hvv q1 q2 hcl z1 z3 o1 o2 hpl EST hbl hv hv1 hv2;go_wp2_with fail
      go_region_held3 (fun w'=>w'.cell? ⟨mb,0,none⟩=some (.slice (some ⟨b,off,none⟩) N c1)/\w'.cell? ⟨b,off+p*2,none⟩=some kv/\w'.cell? ⟨b,off+p*2+1,none⟩=some vv)
       (with_reducible (first | exact K0.out | exact K1.out))
       (first
         | (go_at_call 24;(with_reducible refine cS.mono ?_);rintro e w7 ⟨rfl,h7,m7⟩
            have K1:=hid (KM.out _ m7);have H7:=hid ((HAH.out.quiet (Below.refl _ _).drew).beside SD.out m7);have HB7:=hid h7;clear h7 m7 cS))
      all_goals
       go_wp2_with fail
       go_roundw
       case rel=>exact ⟨(p:Int)-1,by go_num,by omega,by omega,hid (by rw [show ((p:Int)-1+1).toNat=p by omega];exact ⟨H7.out,by have:=HB7.out;rw [show N-(p+1)+1=N-p by omega] at this;exact this⟩)⟩
       case measure=>simp [intOf]
     ·have hv0:v = -1:=by omega
      subst hv0;have H1:=hid (show Both w1 wr B' ta mb mb 100 es/\Hand w1 wr Bb tb N es from by have:=HB.out;rw [show ((-1:Int)+1).toNat=0 by rfl,List.drop_zero,Nat.sub_zero] at this;exact this);clear HB hv hv1 hv2;go_wp2_with fail
      go_loopw [10] (fun i wr=>∃ j:Nat,i=.int .i64 (j:Int)/\j<=N/\Hid (Both w1 wr B' ta mb mb 100 es/\Hand w1 wr Bb tb N es)) (fun i _=>N-(intOf i).toNat)
      case atStart=>exact ⟨0,rfl,Nat.zero_le _,H1⟩
      case round =>
       obtain ⟨j,rfl,hj,HB⟩:=hrel;clear H1;obtain ⟨A,c,h1,h2,-⟩:=HB.out.1.map.row;rw [HN.out] at h1
       by_cases hlt:j<N
       ·have hwr2:IntKind.i64.wrap ((j:Int)+1)=(j:Int)+1:=IntWalk.i64_in _ (by omega);have hjl:j<es.length:=by rw [HN.out];exact hlt
        obtain ⟨b,off,rfl,hbl,hcl⟩:=h2 (by intro e;rw [e] at hjl;simp at hjl);have q1:=(hcl j hjl).1;have c0:wr.cell? ⟨mb,0,none⟩=some (.slice (some ⟨b,off,none⟩) N c):=h1.2.2 0 _ rfl;obtain ⟨v1,v2⟩:=val_at SRT.out hjl;have cG:=get_run HB.out.2 (by omega) es[j].1;have cH:=hid (fun W (h:Hand w1 W B' ta 100 es)=>get_run h (by omega) es[j].1);rw [v1,v2] at cG cH;obtain ⟨kv,hkv⟩:∃ kv,strV es[j].1=kv:=⟨_,rfl⟩
        obtain ⟨Z,hZ⟩:∃ Z,strB es[j].2=Z:=⟨_,rfl⟩;rw [hkv] at q1 cG cH;rw [show strV es[j].2=.string Z by rw [<- hZ]] at cG cH;have hzz:(Z.toList==Z.toList)=true:=by simp
        have hzn:(Z.toList != Z.toList)=false:=by simp
        have t4:(j:Int)<(N:Int):=by omega
        have t5:(0:Int)<=(j:Int):=by omega
        have KB:=hid (show ∀ w',Below wr.heap.size wr w'->w'.cell? ⟨mb,0,none⟩=some (.slice (some ⟨b,off,none⟩) N c)/\w'.cell? ⟨b,off+j*2,none⟩=some kv from fun w' hb=>⟨(hb.cell (p:=⟨mb,0,none⟩) h1.1).trans c0,(hb.cell (p:=⟨b,off+j*2,none⟩) hbl).trans q1⟩);clear hkv hZ hcl h1 h2 hbl hjl v1 v2;go_wp2_with fail
        refine cG.mono ?_;rintro e w8 ⟨rfl,b8⟩;obtain ⟨c0',q1'⟩:=KB.out _ b8;have H8:=hid (show Both w1 w8 B' ta mb mb 100 es/\Hand w1 w8 Bb tb N es from ⟨HB.out.1.quiet b8,HB.out.2.quiet b8⟩);have cI:=cH.out w8 H8.out.1.hand;clear cG cH b8 c0 q1 HB KB;go_wp2_with fail
        refine cI.mono ?_;rintro e w9 ⟨rfl,b9⟩;have H9:=hid (show Both w1 w9 B' ta mb mb 100 es/\Hand w1 w9 Bb tb N es from ⟨H8.out.1.quiet b9,H8.out.2.quiet b9⟩);clear cI b9 c0' q1' H8;go_wp2_with fail
        go_roundw
        case rel=>exact ⟨j+1,by go_num,by omega,H9⟩
        case measure=>simp [intOf];omega
       ·obtain rfl:j=N:=by omega
        have c0:wr.cell? ⟨mb,0,none⟩=some (.slice A j c):=h1.2.2 0 _ rfl;have FIN:=hid (B1.out.trans (HB.out.1.below.mono B1.out.size));have cC:=count_run HB.out.1.hand;have cE:=count_run HB.out.2;rw [HN.out] at cC cE;have hjj:((j:Int)==(j:Int))=true:=by simp
        clear h1 h2 HB hlt hj;go_wp2_with fail
        refine cC.mono ?_;rintro e w' ⟨rfl,rfl⟩;clear cC;go_wp2_with fail
        refine cE.mono ?_;rintro e w' ⟨rfl,rfl⟩;clear cE;go_wp2_with fail
        go_ret
        exact ⟨rfl,FIN.out⟩
   ·have t1:¬ (k:Int)<(n:Int):=by omega
    clear hgo hkn;go_wp2_with fail
    clear z2;go_loopw [9] (fun i wr=>∃ v:Int,i=.int .i64 v/\-1<=v/\v<(N:Int)/\Hid (Both w1 wr B' ta mb mb 100 es/\Hand w1 wr Bb tb (N-(v+1).toNat) (es.drop (v+1).toNat))) (fun i _=>(intOf i+1).toNat)
    case atStart=>exact ⟨(N:Int)-1,rfl,by omega,by omega,hid (by rw [show ((N:Int)-1+1).toNat=N by omega];exact H0.out)⟩
    case round =>
     obtain ⟨v,rfl,hv1,hv2,HB⟩:=hrel;clear H0
     by_cases hv:0<=v
     ·obtain ⟨p,rfl⟩:∃ p:Nat,v=(p:Int):=⟨v.toNat,by omega⟩;have hpN:p<N:=by omega
      have hpl:p<es.length:=by rw [HN.out];exact hpN
      have hwp:IntKind.i64.wrap ((p:Int)-1)=(p:Int)-1:=IntWalk.i64_in _ (by omega);have HAH:=hid HB.out.1;have EST:=hid (set_ahead SRT.out hpl);have HBH:=hid (show Hand w1 wr Bb tb (N-(p+1)) (es.drop (p+1)) from by have:=HB.out.2;rw [show ((p:Int)+1).toNat=p+1 by omega] at this;exact this);obtain ⟨o1,o2⟩:=OKS.out _ (List.getElem_mem hpl);have cS:=set_run (HBH.out.quiet (Below.refl _ _).drew) (by omega) es[p].1 es[p].2 o1.1 o1.2 o2
      rw [EST.out] at cS;obtain ⟨A1,c1,z1,z3,-⟩:=HAH.out.map.row;rw [HN.out] at z1;obtain ⟨b,off,rfl,hbl,hcl⟩:=z3 (by intro e;rw [e] at hpl;simp at hpl);obtain ⟨q1,q2⟩:=hcl p hpl;obtain ⟨kv,hkv⟩:∃ kv,strV es[p].1=kv:=⟨_,rfl⟩;obtain ⟨vv,hvv⟩:∃ vv,strV es[p].2=vv:=⟨_,rfl⟩;rw [hkv] at q1 cS;rw [hvv] at q2 cS;have z2:wr.cell? ⟨mb,0,none⟩=some (.slice (some ⟨b,off,none⟩) N c1):=z1.2.2 0 _ rfl;have K0:=hid (show wr.drew.cell? ⟨mb,0,none⟩=some (.slice (some ⟨b,off,none⟩) N c1)/\wr.drew.cell? ⟨b,off+p*2,none⟩=some kv/\wr.drew.cell? ⟨b,off+p*2+1,none⟩=some vv from ⟨z2,q1,q2⟩)
      have KM:=hid (show ∀ w',Mod (tall tb Bb) wr.drew w'->w'.cell? ⟨mb,0,none⟩=some (.slice (some ⟨b,off,none⟩) N c1)/\w'.cell? ⟨b,off+p*2,none⟩=some kv/\w'.cell? ⟨b,off+p*2+1,none⟩=some vv from fun w' m=>by
       obtain ⟨A2,c2,y1,y2,-,-,y3⟩:=(HAH.out.quiet (Below.refl _ _).drew).map.row;have hm:mb∉tall tb Bb:=fun e=>by have:=(SD.out.b _ e).2.2.2;omega
       have e1:=y1.2.2 0 _ rfl;rw [HN.out,K0.out.1] at e1;have e2:A2=some ⟨b,off,none⟩:=by cases e1;rfl
       have hbb:b∉tall tb Bb:=fun e=>by have h1:=(SD.out.b _ e).2.2.2;have h2:=(y3 _ e2).1;simp only at h2;omega
       exact ⟨(m.cell (p:=⟨mb,0,none⟩) y1.1 hm).trans K0.out.1,(m.cell (p:=⟨b,off+p*2,none⟩) hbl hbb).trans K0.out.2.1,(m.cell (p:=⟨b,off+p*2+1,none⟩) hbl hbb).trans K0.out.2.2⟩)
      have t4:(p:Int)<(N:Int):=by omega
      have t5:(0:Int)<=(p:Int):=by omega
      clear HB hkv hvv q1 q2 hcl z1 z3 o1 o2 hpl EST hbl hv hv1 hv2;go_wp2_with fail
      go_region_held3 (fun w'=>w'.cell? ⟨mb,0,none⟩=some (.slice (some ⟨b,off,none⟩) N c1)/\w'.cell? ⟨b,off+p*2,none⟩=some kv/\w'.cell? ⟨b,off+p*2+1,none⟩=some vv)
       (with_reducible (first | exact K0.out | exact K1.out))
       (first
         | (go_at_call 24;(with_reducible refine cS.mono ?_);rintro e w7 ⟨rfl,h7,m7⟩
            have K1:=hid (KM.out _ m7);have H7:=hid ((HAH.out.quiet (Below.refl _ _).drew).beside SD.out m7);have HB7:=hid h7;clear h7 m7 cS))
      all_goals
       go_wp2_with fail
       go_roundw
       case rel=>exact ⟨(p:Int)-1,by go_num,by omega,by omega,hid (by rw [show ((p:Int)-1+1).toNat=p by omega];exact ⟨H7.out,by have:=HB7.out;rw [show N-(p+1)+1=N-p by omega] at this;exact this⟩)⟩
       case measure=>simp [intOf]
     ·have hv0:v = -1:=by omega
      subst hv0;have H1:=hid (show Both w1 wr B' ta mb mb 100 es/\Hand w1 wr Bb tb N es from by have:=HB.out;rw [show ((-1:Int)+1).toNat=0 by rfl,List.drop_zero,Nat.sub_zero] at this;exact this);clear HB hv hv1 hv2;go_wp2_with fail
      go_loopw [10] (fun i wr=>∃ j:Nat,i=.int .i64 (j:Int)/\j<=N/\Hid (Both w1 wr B' ta mb mb 100 es/\Hand w1 wr Bb tb N es)) (fun i _=>N-(intOf i).toNat)
      case atStart=>exact ⟨0,rfl,Nat.zero_le _,H1⟩
      case round =>
       obtain ⟨j,rfl,hj,HB⟩:=hrel;clear H1;obtain ⟨A,c,h1,h2,-⟩:=HB.out.1.map.row;rw [HN.out] at h1
       by_cases hlt:j<N
       ·have hwr2:IntKind.i64.wrap ((j:Int)+1)=(j:Int)+1:=IntWalk.i64_in _ (by omega);have hjl:j<es.length:=by rw [HN.out];exact hlt
        obtain ⟨b,off,rfl,hbl,hcl⟩:=h2 (by intro e;rw [e] at hjl;simp at hjl);have q1:=(hcl j hjl).1;have c0:wr.cell? ⟨mb,0,none⟩=some (.slice (some ⟨b,off,none⟩) N c):=h1.2.2 0 _ rfl;obtain ⟨v1,v2⟩:=val_at SRT.out hjl;have cG:=get_run HB.out.2 (by omega) es[j].1;have cH:=hid (fun W (h:Hand w1 W B' ta 100 es)=>get_run h (by omega) es[j].1);rw [v1,v2] at cG cH;obtain ⟨kv,hkv⟩:∃ kv,strV es[j].1=kv:=⟨_,rfl⟩
        obtain ⟨Z,hZ⟩:∃ Z,strB es[j].2=Z:=⟨_,rfl⟩;rw [hkv] at q1 cG cH;rw [show strV es[j].2=.string Z by rw [<- hZ]] at cG cH;have hzz:(Z.toList==Z.toList)=true:=by simp
        have hzn:(Z.toList != Z.toList)=false:=by simp
        have t4:(j:Int)<(N:Int):=by omega
        have t5:(0:Int)<=(j:Int):=by omega
        have KB:=hid (show ∀ w',Below wr.heap.size wr w'->w'.cell? ⟨mb,0,none⟩=some (.slice (some ⟨b,off,none⟩) N c)/\w'.cell? ⟨b,off+j*2,none⟩=some kv from fun w' hb=>⟨(hb.cell (p:=⟨mb,0,none⟩) h1.1).trans c0,(hb.cell (p:=⟨b,off+j*2,none⟩) hbl).trans q1⟩);clear hkv hZ hcl h1 h2 hbl hjl v1 v2;go_wp2_with fail
        refine cG.mono ?_;rintro e w8 ⟨rfl,b8⟩;obtain ⟨c0',q1'⟩:=KB.out _ b8;have H8:=hid (show Both w1 w8 B' ta mb mb 100 es/\Hand w1 w8 Bb tb N es from ⟨HB.out.1.quiet b8,HB.out.2.quiet b8⟩);have cI:=cH.out w8 H8.out.1.hand;clear cG cH b8 c0 q1 HB KB;go_wp2_with fail
        refine cI.mono ?_;rintro e w9 ⟨rfl,b9⟩;have H9:=hid (show Both w1 w9 B' ta mb mb 100 es/\Hand w1 w9 Bb tb N es from ⟨H8.out.1.quiet b9,H8.out.2.quiet b9⟩);clear cI b9 c0' q1' H8;go_wp2_with fail
        go_roundw
        case rel=>exact ⟨j+1,by go_num,by omega,H9⟩
        case measure=>simp [intOf];omega
       ·obtain rfl:j=N:=by omega
        have c0:wr.cell? ⟨mb,0,none⟩=some (.slice A j c):=h1.2.2 0 _ rfl;have FIN:=hid (B1.out.trans (HB.out.1.below.mono B1.out.size));have cC:=count_run HB.out.1.hand;have cE:=count_run HB.out.2;rw [HN.out] at cC cE;have hjj:((j:Int)==(j:Int))=true:=by simp
        clear h1 h2 HB hlt hj;go_wp2_with fail
        refine cC.mono ?_;rintro e w' ⟨rfl,rfl⟩;clear cC;go_wp2_with fail
        refine cE.mono ?_;rintro e w' ⟨rfl,rfl⟩;clear cE;go_wp2_with fail
        go_ret
        exact ⟨rfl,FIN.out⟩
  obtain ⟨es,hb,he⟩:=HB.out;have H0:=hid hb;have E0:=hid he;have t1:(k:Int)<(n:Int):=by omega
  have t2:(k:Int)<100:=by omega
  have t3:(0:Int)<=(k:Int):=by omega
  have hkl:k<l.length:=by have:=HL.out;omega
  obtain ⟨b,off,rfl,hbl,hc⟩:=HS.out (by intro e;rw [e] at hkl;simp at hkl);have hcx:=hc k hkl;obtain ⟨x,hx⟩:∃ x,l[k]=x:=⟨_,rfl⟩;rw [hx] at hcx;have L:=hid (show ∀ w',Below w1.heap.size w1 w'->(Instr.loadAt 32 (.pointer (some ⟨b,off+k*3,none⟩))).run Tryz.prog w'=.ok (.agg (callT x)) w'/\w'.cell? ⟨b,off+k*3,none⟩=some (.int .i64 x.kind) from fun w' hb'=>by
   have:=Store.range_below hcx hbl (B1.out.trans (hb'.mono B1.out.size));exact ⟨load_callT this,this 0 _ rfl⟩)
  have cS:=small_any x wr;have cD0:=hid (show ∀ w4,Both w1 w4 B' ta mb mb k es->Calls Tryz.prog 14 #[ptr ta,ptr mb,.agg (callT x)] w4 (fun e w'=>e=.returned (.bool true)/\(∃ es',Both w1 w' B' ta mb mb (k+1) es')/\Mod (mb :: tall ta B') w4 w') from fun w4 h=>(did_any h (by omega) x.kind x.key x.val).mono (fun e w' ⟨h1,h2,h3,_⟩=>⟨h1,⟨_,h2⟩,h3⟩));have K2:k+1<=n/\k+1<=100:=by omega
  obtain ⟨sm,hsm⟩:∃ sm,decide (x.key.length<=100/\x.val.length<=200)=sm:=⟨_,rfl⟩;rw [hsm] at cS;obtain ⟨kd,hkd⟩:∃ kd,x.kind=kd:=⟨_,rfl⟩;rw [hkd] at L;obtain ⟨cv,hcv⟩:∃ cv,callT x=cv:=⟨_,rfl⟩;rw [hcv] at cS L cD0;have l0:=L.out wr H0.out.below;clear hc hcx hb he HB hgo hx hk hk2 hkl hbl hcv hsm hkd;have L0:=hid l0.1;clear l0;go_wp2_with (first | ((with_reducible refine Disk.wpList_load_eq rfl 32 (.tmp 42) rfl _ ?_ L0.out ?_);(next=>rfl)))
  refine cS.mono ?_;rintro e w5 ⟨rfl,b5⟩;have H5:=hid (H0.out.quiet b5);have E5:=hid (E0.out.mod (S:=[]) (Mod.of_below [] b5) (fun x hx=>by cases hx));clear b5 cS H0 L0 E0;obtain ⟨-,kc⟩:=L.out w5 H5.out.below;rcases sm with _ | _
  ·have HF:=hid (H5.out.more (Nat.le_succ k));clear H5 L cD0 kc;go_wp2_with fail
   go_roundw
   case rel=>exact ⟨k+1,by go_num,K2.1,K2.2,hid ⟨_,HF.out,E5.out⟩⟩
   case measure=>simp [intOf];omega
  by_cases hkd:kd=1
  rotate_left
  ·have d1:(kd==1)=false:=beq_eq_false_iff_ne.2 hkd;have HF:=hid (H5.out.more (Nat.le_succ k));clear H5 L cD0 hkd;go_wp2_with fail
   go_roundw
   case rel=>exact ⟨k+1,by go_num,K2.1,K2.2,hid ⟨_,HF.out,E5.out⟩⟩
   case measure=>simp [intOf];omega
  have d1:(kd==1)=true:=by simp [hkd]
  have L4:=hid (L.out w5 H5.out.below).1;have cD:=cD0.out w5 H5.out;clear L cD0 hkd;go_wp2_with (first | ((with_reducible refine Disk.wpList_load_eq rfl 32 (.tmp 57) rfl _ ?_ L4.out ?_);(next=>rfl)))
  refine cD.mono ?_;rintro e w6 ⟨rfl,⟨es',h6⟩,m6⟩;have H6:=hid h6;have E6:=hid (E5.out.beside SD.out m6);clear cD L4 H5 h6 m6 kc;go_wp2_with fail
  go_roundw
  case rel=>exact ⟨k+1,by go_num,K2.1,K2.2,hid ⟨_,H6.out,E6.out⟩⟩
  case measure=>simp [intOf];omega
end Go.Proofs.YtbhfammnffecoaaGreat.Tree
