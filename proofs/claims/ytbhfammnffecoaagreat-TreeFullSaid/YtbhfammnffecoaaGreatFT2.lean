import Derived.Test.YtbhfammnffecoaaGreatMT13
import Derived.Test.YtbhfammnffecoaaGreatFT1
set_option maxRecDepth 100000
set_option maxHeartbeats 32000000
namespace Go.Proofs.YtbhfammnffecoaaGreat.Tree
open Go.RowKit Gen
open Disk (St Dev Mod ptr)
open Page (Pg Lay PgOk PgRows pgC pgV Enc IsDec BytesAt strV strB PRow less Lt Rises KeyOk)
open Pool (Po NAt PoAt La poC poV numV At takeP giveP backP Fresh PoolOk OwnI chunks layAll May)
open Store
open Lib (hid)
abbrev callTZ:Array Value:=#[.int .i64 0,.string ⟨#[]⟩,.string ⟨#[]⟩]
theorem put_callT (W:World) (x:CallT):(Instr.storeAt 32 (.pointer (some ⟨W.heap.size,0,none⟩)) (.agg (callT x))).run Tryz.prog (W.alloc (.cells callTZ 32))=.ok () (W.alloc (.cells (callT x) 32)) :=
 run_storeAt_new W 32 callTZ (callT x) size_tcall rfl (by simp [Value.oneCell'])
theorem FullSt.count {w1 w:World} {T:List Nat} {tb lo mb kb k:Nat} {es es0:Ents} (h:FullSt w1 w T tb lo mb kb k es es0):Calls Tryz.prog 15 #[ptr tb] w.drew (fun e w'=>e=.returned (.int .i64 (es.length:Int))/\w'=w.drew):=by
 obtain ⟨⟨B,e,h1,h2⟩,-⟩:=h;exact countF_run (h1.quiet (Below.refl _ _).drew)
theorem FullSt.cell {w1 w:World} {T:List Nat} {tb lo mb kb k:Nat} {es es0:Ents} (h:FullSt w1 w T tb lo mb kb k es es0):∃ A c,w.cell? ⟨mb,0,none⟩=some (.slice A es.length c):=by
 obtain ⟨A,c,h1,-⟩:=h.map.row;exact ⟨A,c,h1.2.2 0 _ rfl⟩
theorem full_new {w1 w2 w4:World} {B:Blk} {tb kb:Nat} (h:HandF w1 w2 B tb 0 [] []) (b:Below (w2.alloc (.cells #[.slice none 0 0] 29)).heap.size (w2.alloc (.cells #[.slice none 0 0] 29)) w4)
 (n1:(w2.alloc (.cells #[.slice none 0 0] 29)).heap.size<=kb) (hm:MapOn w4 (w2.alloc (.cells #[.slice none 0 0] 29)).heap.size kb []):FullSt w1 w4 (tall tb B) tb w2.heap.size w2.heap.size kb 0 [] []:=by
 have bm:=Pool.below_box w2 (.cells #[.slice none 0 0] 29);have a:=at_new w2 #[.slice none 0 0] 29;have lt:=h.lt;have hs:=a.1;exact ⟨⟨withX B w2.heap.size,rfl,(h.withx bm (Nat.le_refl _) a.1).quiet b,List.mem_cons_self ..⟩,(MapOn.mk (Nat.le_refl _) ⟨none,0,a,fun h=>absurd rfl h,fun _=>rfl,Nat.le_refl _,fun x e=>by cases e⟩).below b,⟨hm.weaken bm.size,by omega,fun h=>absurd rfl h⟩,lt.2,lt.1.size⟩
theorem map_new (w:World):MapOn (w.alloc (.cells #[.slice none 0 0] 29)) 0 w.heap.size [] :=
 ⟨Nat.zero_le _,none,0,at_new w #[.slice none 0 0] 29,fun h=>absurd rfl h,fun _=>rfl,Nat.le_refl _,fun x e=>by cases e⟩
theorem full_walk {A:Option Addr} {n c:Nat} {l:List CallT} (n1:Int) (W:World) (hl:l.length=n) (hs:Script W A l) :
 Calls Tryz.prog 7 #[.int .i64 n1,.slice A n c] W fun e W'=>e=.returned (.bool true)/\Below W.heap.size W W':=by
 have cA:=awake_any W;have HL:=hid hl;have HS:=hid hs;clear hl hs
 by_cases hr:2<=n1/\n1<=100
 rotate_left
 ·by_cases h2:n1<2
  rotate_left
  have h3:100<n1:=by omega
  all_goals
   clear hr;go_enter Tryz.func7,Tryz.ntmps7
   go_wp2_with fail
   refine cA.mono ?_;rintro e w1 ⟨rfl,b1⟩;go_wp2_with fail
   go_ret
   exact ⟨rfl,b1⟩
 obtain ⟨M,rfl⟩:∃ M:Nat,n1=(M:Int):=⟨n1.toNat,by omega⟩;have u1:¬ (M:Int)<2:=by omega
 have u2:¬ (100:Int)<(M:Int):=by omega
 have u3:2<=M/\M<=100:=by omega
 clear hr;go_enter Tryz.func7,Tryz.ntmps7
 go_wp2_with fail
 refine cA.mono ?_;rintro e w1 ⟨rfl,b1⟩;have cN:=newF_run M u3.1 u3.2 w1;have B1:=hid b1;clear b1 cA;go_wp2_with fail
 refine cN.mono ?_;rintro e w2 ⟨B0,tb,rfl,h2,-⟩;have H2:=hid h2;have cY:=mcopy_any (map_new w2) (Nat.zero_le _);obtain ⟨mb0,hmb⟩:∃ mb,w2.heap.size=mb:=⟨_,rfl⟩;obtain ⟨w3,hw3⟩:∃ w3,w2.alloc (.cells #[.slice none 0 0] 29)=w3:=⟨_,rfl⟩;have EM:=hid hmb;have EW:=hid hw3;rw [hw3,hmb] at cY;clear h2 cN hmb hw3 u1 u2 u3;go_wp2_with fail
 rw [EM.out,EW.out];refine cY.mono ?_;rintro e w4 ⟨kb0,rfl,y1,y2,y3,y4⟩;have F0:=full_new H2.out (by rw [EW.out];exact y3) (by rw [EW.out];exact y1) (by rw [EW.out];exact y4);rw [EM.out] at F0;obtain ⟨T,hT⟩:∃ T,tall tb B0=T:=⟨_,rfl⟩;rw [hT] at F0;have FS0:=hid F0;obtain ⟨lo,hlo⟩:∃ lo,mb0=lo:=⟨_,rfl⟩;have FS0:=hid (show FullSt w1 w4 T tb lo mb0 kb0 0 [] [] from by rw [<- hlo];exact FS0.out);clear H2 cY EM EW y1 y2 y3 y4 F0 hT hlo
 go_wp2_with fail
 go_loopw [7,8,9] (fun m kp i wr=>∃ mb kb k:Nat,m=ptr mb/\kp=ptr kb/\i=.int .i64 (k:Int)/\k<=n/\k<=100/\Hid (∃ es es0,FullSt w1 wr T tb lo mb kb k es es0)) (fun _ _ i _=>n-(intOf i).toNat)
 case atStart=>exact ⟨mb0,kb0,0,rfl,rfl,rfl,Nat.zero_le _,Nat.zero_le _,hid ⟨_,_,FS0.out⟩⟩
 case round =>
  obtain ⟨mb,kb,k,rfl,rfl,rfl,hk,hk2,HB⟩:=hrel;clear FS0;have hwr:IntKind.i64.wrap ((k:Int)+1)=(k:Int)+1:=IntWalk.i64_in _ (by omega)
  by_cases hgo:k<n/\k<100
  rotate_left
  ·obtain ⟨es,es0,hb⟩:=HB.out;obtain ⟨N,hN⟩:∃ N,es.length=N:=⟨_,rfl⟩;have HN:=hid hN;have H0:=hid (hb.more hk2);clear hb HB hN hwr
   by_cases hkn:k<n
   have t1:(k:Int)<(n:Int):=by omega
   have t2:¬ (k:Int)<100:=by omega
   clear hgo hkn;go_wp2_with fail
   rotate_left
   have t1:¬ (k:Int)<(n:Int):=by omega
   clear hgo hkn;go_wp2_with fail
   all_goals
    go_loopw [15] (fun i wr=>∃ j:Nat,i=.int .i64 (j:Int)/\j<=N/\Hid (FullSt w1 wr T tb lo mb kb 100 es es0)) (fun i _=>N-(intOf i).toNat)
    case atStart=>exact ⟨0,rfl,Nat.zero_le _,H0⟩
    case round =>
     obtain ⟨j,rfl,hj,HB⟩:=hrel;clear H0;obtain ⟨A,c,h1,h2,-⟩:=HB.out.map.row;rw [HN.out] at h1
     by_cases hlt:j<N
     ·have hwr2:IntKind.i64.wrap ((j:Int)+1)=(j:Int)+1:=IntWalk.i64_in _ (by have:=HB.out.few.1;rw [HN.out] at this;omega);have hjl:j<es.length:=by rw [HN.out];exact hlt
      obtain ⟨b,off,rfl,hbl,hcl⟩:=h2 (by intro e;rw [e] at hjl;simp at hjl);have c0:wr.cell? ⟨mb,0,none⟩=some (.slice (some ⟨b,off,none⟩) N c):=h1.2.2 0 _ rfl;have q1:=(hcl j hjl).1;have t1:(j:Int)<(N:Int):=by omega
      have t2:(0:Int)<=(j:Int):=by omega
      have cD:=didF_get HB.out (by omega) es[j].1;obtain ⟨kv,hkv⟩:∃ kv,strB es[j].1=kv:=⟨_,rfl⟩;rw [show strV es[j].1=.string kv by rw [<- hkv]] at q1 cD;clear hkv hcl h1 h2 hbl HB hjl;go_wp2_with fail
      refine cD.mono ?_;rintro e w4 ⟨rfl,hB4⟩;have H4:=hid hB4;clear cD hB4 q1 c0;go_wp2_with fail
      go_roundw
      case rel=>exact ⟨j+1,by go_num,by omega,H4⟩
      case measure=>simp [intOf];omega
     ·obtain rfl:j=N:=by omega
      have c0:wr.cell? ⟨mb,0,none⟩=some (.slice A j c):=h1.2.2 0 _ rfl;have FIN:=hid (B1.out.trans (HB.out.below.mono B1.out.size));clear h1 h2 HB hlt hj;go_wp2_with fail
      go_ret
      exact ⟨rfl,FIN.out⟩
  obtain ⟨es,es0,hb⟩:=HB.out;have H0:=hid hb;have t1:(k:Int)<(n:Int):=by omega
  have t2:(k:Int)<100:=by omega
  have t3:(0:Int)<=(k:Int):=by omega
  have hkl:k<l.length:=by have:=HL.out;omega
  obtain ⟨b,off,rfl,hbl,hc⟩:=HS.out (by intro e;rw [e] at hkl;simp at hkl);have hcx:=hc k hkl;obtain ⟨x,hx⟩:∃ x,l[k]=x:=⟨_,rfl⟩;rw [hx] at hcx;have L0:=load_callT (Store.range_below hcx hbl (B1.out.trans (H0.out.below.mono B1.out.size)));have P0:=put_callT wr x;have b1:=Pool.below_box wr (.cells (callT x) 32);have a1:=at_new wr (callT x) 32;have LB:=load_callT (at_range a1 (o:=0) (cs:=(callT x).toList) rfl)
  obtain ⟨W1,hW1⟩:∃ W1,wr.alloc (.cells (callT x) 32)=W1:=⟨_,rfl⟩;rw [hW1] at P0 b1 a1 LB;have FS1:=hid (hb.quiet b1);have cS:=small_any x W1;have LT:=hid hb.lt;obtain ⟨cb,hcb⟩:∃ cb,wr.heap.size=cb:=⟨_,rfl⟩;have HCB:=hid hcb;have KB:=hid (show ∀ W',Mod (mb :: T) W1 W'->W'.cell? ⟨wr.heap.size,0,none⟩=some (.int .i64 x.kind)/\W'.cell? ⟨wr.heap.size,1,none⟩=some (strV x.key)/\W'.cell? ⟨wr.heap.size,2,none⟩=some (strV x.val) from fun W' m=>by
   have:=at_mod a1 m (fun e=>by have:=LT.out _ e;omega);exact ⟨this.2.2 0 _ rfl,this.2.2 1 _ rfl,this.2.2 2 _ rfl⟩)
  have K2:k+1<=n/\k+1<=100:=by omega
  obtain ⟨sm,hsm⟩:∃ sm,decide (x.key.length<=100/\x.val.length<=200)=sm:=⟨_,rfl⟩;rw [hsm] at cS;obtain ⟨cv,hcv⟩:∃ cv,callT x=cv:=⟨_,rfl⟩;rw [hcv] at cS L0 P0 LB;have LC:=hid L0;have PC:=hid P0;have LD:=hid LB;obtain ⟨kd,hkd⟩:∃ kd,x.kind=kd:=⟨_,rfl⟩;obtain ⟨key,hkey⟩:∃ key,x.key=key:=⟨_,rfl⟩;obtain ⟨val,hval⟩:∃ val,x.val=val:=⟨_,rfl⟩;rw [hkd,hkey,hval] at KB;have SUB1:=hid (show ∀ x∈T,x∈mb :: T from fun x hx=>List.mem_cons_of_mem _ hx)
  have SUB2:=hid (show ∀ x∈[mb],x∈mb :: T from fun x hx=>by rw [List.mem_singleton] at hx;rw [hx];exact List.mem_cons_self ..);have LOW:=hid (show ∀ W',Mod (mb :: T) wr W'->lo<=W'.heap.size from fun W' m=>by
   have h1:=m.size;have h2:=LT.out mb (List.mem_cons_self ..);have h3:=hb.map.low;omega)
  have B01:=hid (Mod.of_below (mb :: T) b1);clear hc hcx hb HB hgo hx hk hk2 hkl hbl hcv hsm hkd hkey hval L0 P0 LB a1 b1 hW1 H0 hcb LT;go_wp2_with (first | ((with_reducible refine Disk.wpList_load_eq rfl 32 (.tmp 46) rfl _ ?_ LC.out ?_);(next=>rfl)) | ((with_reducible refine Disk.wpList_store_eq rfl 32 (.tmp 10) (.tmp 47) rfl _ _ ?_ ?_ PC.out ?_);(next=>rfl);(next=>rfl)) | ((with_reducible refine Disk.wpList_load_eq rfl 32 (.tmp 10) rfl _ ?_ LD.out ?_);(next=>rfl)))
  refine cS.mono ?_;rintro e w5 ⟨rfl,b5⟩;have FS5:=hid (FS1.out.quiet b5);have M5:=hid (Mod.of_below (mb :: T) b5);clear b5 cS FS1 LC PC LD;rcases sm with _ | _
  ·have HF:=hid (FS5.out.more (Nat.le_succ k));clear FS5;go_wp2_with fail
   go_roundw
   case rel=>exact ⟨mb,kb,k+1,rfl,rfl,by go_num,K2.1,K2.2,hid ⟨_,_,HF.out⟩⟩
   case measure=>simp [intOf];omega
  obtain ⟨c0,c1,c2⟩:=KB.out _ M5.out;obtain ⟨⟨B,hT,hh,hx⟩,-⟩:=FS5.out;have HT:=hid hT;have HX:=hid hx;have HH:=hid hh;have KK:k<=200:=by omega
  clear hT hx hh
  by_cases k1:kd=1
  ·subst k1
   by_cases hg:1<=key.length/\key.length<=48/\val.length<=100
   ·have cT:=setF_run HH.out KK key val hg.1 hg.2.1 hg.2.2;have cM:=hid (fun W' (h:MapOn W' lo mb es)=>mset_any h HH.out.sorted key val hg.1 hg.2.1 hg.2.2 (by have:=HH.out.few.1;omega));rw [HT.out] at cT;obtain ⟨kv,hkv⟩:∃ kv,strV key=kv:=⟨_,rfl⟩;obtain ⟨vv,hvv⟩:∃ vv,strV val=vv:=⟨_,rfl⟩;rw [hkv] at cT cM c1 KB;rw [hvv] at cT cM c2 KB;clear hkv hvv hg;go_wp2_with fail
    refine cT.mono ?_;rintro e w6 ⟨m6,hcase⟩;have M6:=hid m6;have cP:=cM.out w6 (FS5.out.map.mod m6 FS5.out.low);obtain ⟨-,c1,c2⟩:=KB.out _ (M5.out.trans (m6.mono SUB1.out));clear m6 cT cM c0;rcases hcase with ⟨rfl,h6⟩ | ⟨rfl,h6⟩
    ·have H6:=hid h6;clear h6;go_wp2_with fail
     refine cP.mono ?_;rintro e w7 ⟨rfl,h7,m7⟩;have FX:=hid (FS5.out.step HT.out HX.out H6.out M6.out h7 m7);clear h7 m7 cP c1 c2 FS5 HH H6 M6 KB M5;have cC:=FX.out.count;obtain ⟨A9,c9,k9⟩:=FX.out.cell;have K9:=hid (show World.cell? (World.drew _) ⟨mb,0,none⟩=_ from k9);generalize List.length _=N9 at cC K9;clear k9;go_wp2_with fail
     go_region_held3 (fun w'=>w'.cell? ⟨mb,0,none⟩=some (.slice A9 N9 c9))
      (with_reducible (first | exact K9.out))
      (first
        | (go_at_call 15;(with_reducible refine cC.mono ?_);rintro e w' ⟨rfl,rfl⟩;clear cC))
     all_goals
      go_wp2_with fail
      go_roundw
      case rel=>exact ⟨mb,kb,k+1,rfl,rfl,by go_num,K2.1,K2.2,hid ⟨_,_,FX.out.quiet (Below.refl _ _).drew⟩⟩
      case measure=>simp [intOf];omega
    ·have H6:=hid h6;clear h6;go_wp2_with fail
     refine cP.mono ?_;rintro e w7 ⟨rfl,h7,m7⟩;have H7:=hid (H6.out.touch HX.out (fun e=>by rw [HT.out] at e;have:=FS5.out.low _ e;have:=FS5.out.map.low;omega) (Nat.le_trans FS5.out.new FS5.out.map.low) m7);have FR:=hid ((FS5.out.far.mod M6.out (fun k hk=>.inl (FS5.out.low k hk))).mod m7 (fun k hk=>by rw [List.mem_singleton] at hk;exact .inr hk));have LO7:=hid (LOW.out _ (((B01.out.trans M5.out).trans (M6.out.mono SUB1.out)).trans (m7.mono SUB2.out)))
     have BK:=hid (And.intro FS5.out.low FS5.out.new);clear h7 m7 cP c1 c2 FS5 HH H6 M6 KB M5;have cY:=mcopy_any FR.out.on (by have:=H7.out.few.2;omega);go_wp2_with fail
     refine cY.mono ?_;rintro e w8 ⟨nb,rfl,y1,y2,y3,y4⟩;have FX:=hid (FullSt.back HT.out H7.out FR.out BK.out.1 BK.out.2 LO7.out y3 y1 y2 y4);clear y1 y2 y3 y4 cY H7 FR LO7 BK;have cC:=FX.out.count;obtain ⟨A9,c9,k9⟩:=FX.out.cell;have K9:=hid (show World.cell? (World.drew _) ⟨nb,0,none⟩=_ from k9);generalize List.length _=N9 at cC K9;clear k9;go_wp2_with fail
     go_region_held3 (fun w'=>w'.cell? ⟨nb,0,none⟩=some (.slice A9 N9 c9))
      (with_reducible (first | exact K9.out))
      (first
        | (go_at_call 15;(with_reducible refine cC.mono ?_);rintro e w' ⟨rfl,rfl⟩;clear cC))
     all_goals
      go_wp2_with fail
      go_roundw
      case rel=>exact ⟨nb,kb,k+1,rfl,rfl,by go_num,K2.1,K2.2,hid ⟨_,_,FX.out.quiet (Below.refl _ _).drew⟩⟩
      case measure=>simp [intOf];omega
   ·have hb2:key.length<1\/48<key.length\/100<val.length:=by omega
    have cT:=set_bad (w:=w5) (tb:=tb) key val hb2;have cM:=hid (fun W'=>mset_bad mb key val hb2 W');obtain ⟨kv,hkv⟩:∃ kv,strV key=kv:=⟨_,rfl⟩;obtain ⟨vv,hvv⟩:∃ vv,strV val=vv:=⟨_,rfl⟩;rw [hkv] at cT cM c1 KB;rw [hvv] at cT cM c2 KB;clear hkv hvv hg hb2;go_wp2_with fail
    refine cT.mono ?_;rintro e w6 ⟨rfl,b6⟩;have cP:=cM.out w6;have FX:=hid ((FS5.out.quiet b6).more (Nat.le_succ k));obtain ⟨-,c1,c2⟩:=KB.out _ (M5.out.trans (Mod.of_below _ b6));clear b6 cT cM c0 FS5 HH;go_wp2_with fail
    refine cP.mono ?_;rintro e w7 ⟨rfl,rfl⟩;clear cP c1 c2 KB M5;have cC:=FX.out.count;obtain ⟨A9,c9,k9⟩:=FX.out.cell;have K9:=hid (show World.cell? (World.drew _) ⟨mb,0,none⟩=_ from k9);generalize List.length _=N9 at cC K9;clear k9;go_wp2_with fail
    go_region_held3 (fun w'=>w'.cell? ⟨mb,0,none⟩=some (.slice A9 N9 c9))
     (with_reducible (first | exact K9.out))
     (first
       | (go_at_call 15;(with_reducible refine cC.mono ?_);rintro e w' ⟨rfl,rfl⟩;clear cC))
    all_goals
     go_wp2_with fail
     go_roundw
     case rel=>exact ⟨mb,kb,k+1,rfl,rfl,by go_num,K2.1,K2.2,hid ⟨_,_,FX.out.quiet (Below.refl _ _).drew⟩⟩
     case measure=>simp [intOf];omega
  have d1:(kd==1)=false:=beq_eq_false_iff_ne.2 k1
  by_cases k2:kd=2
  ·subst k2;clear d1 k1;have cT:=cutF_run HH.out KK key;have cM:=hid (fun W' (h:MapOn W' lo mb es)=>mcut_any h key (by have:=HH.out.few.1;omega));rw [HT.out] at cT;obtain ⟨hb3,hhb3⟩:∃ b,hasOf (keysOf es) key=b:=⟨_,rfl⟩;rw [hhb3] at cM;obtain ⟨kv,hkv⟩:∃ kv,strV key=kv:=⟨_,rfl⟩;rw [hkv] at cT cM c1 KB;clear hkv c2 hhb3;go_wp2_with fail
   refine cT.mono ?_;rintro e w6 ⟨m6,bb,hcase⟩;have M6:=hid m6;have cP:=cM.out w6 (FS5.out.map.mod m6 FS5.out.low);obtain ⟨-,c1,-⟩:=KB.out _ (M5.out.trans (m6.mono SUB1.out));clear m6 cT cM c0;rcases hcase with ⟨rfl,h6⟩ | ⟨rfl,h6⟩
   ·have H6:=hid h6;clear h6;go_wp2_with fail
    refine cP.mono ?_;rintro e w7 ⟨rfl,h7,m7⟩;have FX:=hid (FS5.out.step HT.out HX.out H6.out M6.out h7 m7);clear h7 m7 cP c1 FS5 HH H6 M6 KB M5;have cC:=FX.out.count;obtain ⟨A9,c9,k9⟩:=FX.out.cell;have K9:=hid (show World.cell? (World.drew _) ⟨mb,0,none⟩=_ from k9);generalize List.length _=N9 at cC K9;clear k9;go_wp2_with fail
    go_region_held3 (fun w'=>w'.cell? ⟨mb,0,none⟩=some (.slice A9 N9 c9))
     (with_reducible (first | exact K9.out))
     (first
       | (go_at_call 15;(with_reducible refine cC.mono ?_);rintro e w' ⟨rfl,rfl⟩;clear cC))
    all_goals
     go_wp2_with fail
     go_roundw
     case rel=>exact ⟨mb,kb,k+1,rfl,rfl,by go_num,K2.1,K2.2,hid ⟨_,_,FX.out.quiet (Below.refl _ _).drew⟩⟩
     case measure=>simp [intOf];omega
   ·have H6:=hid h6;clear h6;go_wp2_with fail
    refine cP.mono ?_;rintro e w7 ⟨rfl,h7,m7⟩;have H7:=hid (H6.out.touch HX.out (fun e=>by rw [HT.out] at e;have:=FS5.out.low _ e;have:=FS5.out.map.low;omega) (Nat.le_trans FS5.out.new FS5.out.map.low) m7);have FR:=hid ((FS5.out.far.mod M6.out (fun k hk=>.inl (FS5.out.low k hk))).mod m7 (fun k hk=>by rw [List.mem_singleton] at hk;exact .inr hk));have LO7:=hid (LOW.out _ (((B01.out.trans M5.out).trans (M6.out.mono SUB1.out)).trans (m7.mono SUB2.out)))
    have BK:=hid (And.intro FS5.out.low FS5.out.new);clear h7 m7 cP c1 FS5 HH H6 M6 KB M5;have cY:=mcopy_any FR.out.on (by have:=H7.out.few.2;omega);go_wp2_with fail
    refine cY.mono ?_;rintro e w8 ⟨nb,rfl,y1,y2,y3,y4⟩;have FX:=hid (FullSt.back HT.out H7.out FR.out BK.out.1 BK.out.2 LO7.out y3 y1 y2 y4);clear y1 y2 y3 y4 cY H7 FR LO7 BK;have cC:=FX.out.count;obtain ⟨A9,c9,k9⟩:=FX.out.cell;have K9:=hid (show World.cell? (World.drew _) ⟨nb,0,none⟩=_ from k9);generalize List.length _=N9 at cC K9;clear k9;go_wp2_with fail
    go_region_held3 (fun w'=>w'.cell? ⟨nb,0,none⟩=some (.slice A9 N9 c9))
     (with_reducible (first | exact K9.out))
     (first
       | (go_at_call 15;(with_reducible refine cC.mono ?_);rintro e w' ⟨rfl,rfl⟩;clear cC))
    all_goals
     go_wp2_with fail
     go_roundw
     case rel=>exact ⟨nb,kb,k+1,rfl,rfl,by go_num,K2.1,K2.2,hid ⟨_,_,FX.out.quiet (Below.refl _ _).drew⟩⟩
     case measure=>simp [intOf];omega
  have d2:(kd==2)=false:=beq_eq_false_iff_ne.2 k2
  by_cases k4:kd=4
  ·subst k4;clear d1 d2 k1 k2 c1 c2;have cT:=keepF_run HH.out KK;rw [HT.out] at cT;go_wp2_with fail
   refine cT.mono ?_;rintro e w6 ⟨m6,hcase⟩;have M6:=hid m6;clear m6 cT c0 KB;rcases hcase with ⟨rfl,h6⟩ | ⟨rfl,h6⟩
   ·have H6:=hid h6;have cY:=mcopy_any (FS5.out.map.mod M6.out FS5.out.low) (by have:=FS5.out.few.1;omega);clear h6;go_wp2_with fail
    refine cY.mono ?_;rintro e w7 ⟨nb,rfl,y1,y2,y3,y4⟩;have FX:=hid (FS5.out.keep HT.out HX.out H6.out M6.out (LOW.out _ ((B01.out.trans M5.out).trans (M6.out.mono SUB1.out))) y3 y1 y4);clear y1 y2 y3 y4 cY FS5 HH H6 M6 M5;have cC:=FX.out.count;obtain ⟨A9,c9,k9⟩:=FX.out.cell;have K9:=hid (show World.cell? (World.drew _) ⟨mb,0,none⟩=_ from k9);generalize List.length _=N9 at cC K9;clear k9;go_wp2_with fail
    go_region_held3 (fun w'=>w'.cell? ⟨mb,0,none⟩=some (.slice A9 N9 c9))
     (with_reducible (first | exact K9.out))
     (first
       | (go_at_call 15;(with_reducible refine cC.mono ?_);rintro e w' ⟨rfl,rfl⟩;clear cC))
    all_goals
     go_wp2_with fail
     go_roundw
     case rel=>exact ⟨mb,nb,k+1,rfl,rfl,by go_num,K2.1,K2.2,hid ⟨_,_,FX.out.quiet (Below.refl _ _).drew⟩⟩
     case measure=>simp [intOf];omega
   ·have H7:=hid h6;have FR:=hid (FS5.out.far.mod M6.out (fun k hk=>.inl (FS5.out.low k hk)));have LO7:=hid (LOW.out _ ((B01.out.trans M5.out).trans (M6.out.mono SUB1.out)));have BK:=hid (And.intro FS5.out.low FS5.out.new);clear h6 FS5 HH M6 M5;have cY:=mcopy_any FR.out.on (by have:=H7.out.few.2;omega);go_wp2_with fail
    refine cY.mono ?_;rintro e w8 ⟨nb,rfl,y1,y2,y3,y4⟩;have FX:=hid (FullSt.back HT.out H7.out FR.out BK.out.1 BK.out.2 LO7.out y3 y1 y2 y4);clear y1 y2 y3 y4 cY H7 FR LO7 BK;have cC:=FX.out.count;obtain ⟨A9,c9,k9⟩:=FX.out.cell;have K9:=hid (show World.cell? (World.drew _) ⟨nb,0,none⟩=_ from k9);generalize List.length _=N9 at cC K9;clear k9;go_wp2_with fail
    go_region_held3 (fun w'=>w'.cell? ⟨nb,0,none⟩=some (.slice A9 N9 c9))
     (with_reducible (first | exact K9.out))
     (first
       | (go_at_call 15;(with_reducible refine cC.mono ?_);rintro e w' ⟨rfl,rfl⟩;clear cC))
    all_goals
     go_wp2_with fail
     go_roundw
     case rel=>exact ⟨nb,kb,k+1,rfl,rfl,by go_num,K2.1,K2.2,hid ⟨_,_,FX.out.quiet (Below.refl _ _).drew⟩⟩
     case measure=>simp [intOf];omega
  have d4:(kd==4)=false:=beq_eq_false_iff_ne.2 k4;have FX:=hid (FS5.out.more (Nat.le_succ k));clear k1 k2 k4 c1 c2 KB M5 FS5 HH;have cC:=FX.out.count;obtain ⟨A9,c9,k9⟩:=FX.out.cell;have K9:=hid (show World.cell? (World.drew _) ⟨mb,0,none⟩=_ from k9);generalize List.length _=N9 at cC K9;clear k9;go_wp2_with fail
  go_region_held3 (fun w'=>w'.cell? ⟨mb,0,none⟩=some (.slice A9 N9 c9))
   (with_reducible (first | exact K9.out))
   (first
     | (go_at_call 15;(with_reducible refine cC.mono ?_);rintro e w' ⟨rfl,rfl⟩;clear cC))
  all_goals
   go_wp2_with fail
   go_roundw
   case rel=>exact ⟨mb,kb,k+1,rfl,rfl,by go_num,K2.1,K2.2,hid ⟨_,_,FX.out.quiet (Below.refl _ _).drew⟩⟩
   case measure=>simp [intOf];omega
end Go.Proofs.YtbhfammnffecoaaGreat.Tree
