import Derived.Test.YtbhfammnffecoaaGreatMT13
import Derived.Test.YtbhfammnffecoaaGreatXT2
import Derived.Test.YtbhfammnffecoaaGreatXT1
set_option maxRecDepth 100000
set_option maxHeartbeats 32000000
namespace Go.Proofs.YtbhfammnffecoaaGreat.Tree
open Go.RowKit Gen
open Disk (St Dev Mod ptr)
open Page (Pg Lay PgOk PgRows pgC pgV Enc IsDec BytesAt strV strB PRow less Lt Rises KeyOk)
open Pool (Po NAt PoAt La poC poV numV At takeP giveP backP Fresh PoolOk OwnI chunks layAll May)
open Store
open Lib (hid)
theorem Both.below {w0 w:World} {B:Blk} {tb lo mb k:Nat} {es:Ents} (h:Both w0 w B tb lo mb k es):Below w0.heap.size w0 w:=by
 obtain ⟨d,t,r,dp,c,K,h1,h2⟩:=h.hand;exact h1.below (Mod.refl _ _)
theorem both_new {w0 w:World} {B:Blk} {tb k:Nat} (h:Hand w0 w B tb k []):Both w0 (w.alloc (.cells #[.slice none 0 0] 29)) (withX B w.heap.size) tb w.heap.size w.heap.size k []:=by
 have b:=Pool.below_box w (.cells #[.slice none 0 0] 29);have a:=at_new w #[.slice none 0 0] 29;have hw0:w0.heap.size<=w.heap.size:=by
  obtain ⟨d,t,r,dp,c,K,h1,h2⟩:=h;exact (h1.below (Mod.refl _ _)).size
 refine ⟨h.withx b (Nat.le_refl _) a.1,⟨Nat.le_refl _,none,0,a,fun h=>absurd rfl h,fun _=>rfl,Nat.le_refl _,fun x e=>by cases e⟩,fun x hx=>?_,List.mem_cons_self ..,hw0⟩;rcases Nat.lt_or_ge x w.heap.size with g | g
 ·exact g
 ·exact absurd hx (h.tall g)
open Disk (St Dev Mod ptr byteV)
open Page (Pg Lay PgOk PgRows pgC pgV Enc IsDec BytesAt strV strB strB_beq PRow less Lt Rises KeyOk)
structure RotB (w0 w:World) (B:Blk) (tb lo mb:Nat) (es:Ents):Prop where
 rot:Rot w0 w B tb es
 map:MapOn w lo mb es
 low:∀ x∈tall tb B,x<lo
theorem RotB.quiet {w0 w w':World} {B:Blk} {tb lo mb:Nat} {es:Ents} (h:RotB w0 w B tb lo mb es) (b:Below w.heap.size w w'):RotB w0 w' B tb lo mb es:=⟨h.rot.quiet b,h.map.below b,h.low⟩
theorem Saves.below {w0 w:World} {B:Blk} {tb k:Nat} {es:Ents} (h:Saves w0 w B tb k es):Below w0.heap.size w0 w:=by
 obtain ⟨d,t,r,dp,c,K,h1,-⟩:=h;exact h1.below (Mod.refl _ _)
theorem RotB.step {w0 w w':World} {B:Blk} {tb lo mb:Nat} {es:Ents} (h:RotB w0 w B tb lo mb es) (g:Rot w0 w' B tb es) (m:Mod (tall tb B) w w'):RotB w0 w' B tb lo mb es:=⟨g,h.map.mod m h.low,h.low⟩
open Go.ChangeShapes Go.WideShapes Go.ChangeAt Go.WideMaps Go.WideElems Go.Deep in
theorem open_keys {H:Type} {enc:TypeId×Value->H} {W:World} {base:Nat} {v:Value} {d:DataW H} {ps:List MemPlace} (hval:Value.okWide Tryz.prog W .any base 57 v)
 (h:DataW.Trod enc Tryz.prog W 0 (fun _=>true) true 57 v d ps):∃ (A:Option Addr) (n c:Nat) (l:List Disk.Bs),v=.slice A n c/\l.length=n/\n<=c/\c<=maxLen/\Page.SRow W A l:=by
 obtain ⟨a0,len,cap,rfl⟩:=okWide_slice Tryz.underlying57 hval;obtain ⟨fuel,hf⟩:=h;obtain ⟨A,c,l,e,h1,h2,h3⟩:=Page.open_strs1 hf;simp [Value.cells] at e;obtain ⟨rfl,rfl,rfl⟩:=e;exact ⟨_,_,_,l,rfl,rfl,h1,h2,h3⟩
theorem spoilt_walk {A:Option Addr} {n c:Nat} {l:List CallT} {A4:Option Addr} {n4 c4:Nat} {l4:List Disk.Bs} (page at0:Int) (y:UInt8) (W:World) (hl:l.length=n) (hs:Script W A l) (hl4:l4.length=n4) (hs4:Page.SRow W A4 l4) :
 Calls Tryz.prog 8 #[.slice A n c,.int .i64 page,.int .i64 at0,byteV y,.slice A4 n4 c4] W fun e W'=>e=.returned (.bool true)/\Below W.heap.size W W':=by
 have cA:=awake_any W;have HL:=hid hl;have HS:=hid hs;have HL4:=hid hl4;have HS4:=hid hs4;clear hl hs hl4 hs4;obtain ⟨yv,hyv⟩:∃ yv,byteV y=yv:=⟨_,rfl⟩;rw [hyv];have HY:=hid hyv;clear hyv;go_enter Tryz.func8,Tryz.ntmps8
 go_wp2_with fail
 refine cA.mono ?_;rintro e w1 ⟨rfl,b1⟩;have cN:=new_run w1;have B1:=hid b1;clear b1 cA;go_wp2_with fail
 refine cN.mono ?_;rintro e w2 ⟨B,tb,rfl,h2,-⟩;have BO:=both_new h2;obtain ⟨mb,hmb⟩:∃ mb,w2.heap.size=mb:=⟨_,rfl⟩;obtain ⟨w3,hw3⟩:∃ w3,w2.alloc (.cells #[.slice none 0 0] 29)=w3:=⟨_,rfl⟩;have EM:=hid hmb;have EW:=hid hw3;rw [hw3,hmb] at BO;obtain ⟨B',hB⟩:∃ B',withX B mb=B':=⟨_,rfl⟩;rw [hB] at BO;have BO:=hid BO;clear h2 hB cN hmb hw3;go_wp2_with fail
 rw [EM.out,EW.out];clear EM EW;go_loopw [14] (fun i wr=>∃ k:Nat,i=.int .i64 (k:Int)/\k<=n/\k<=100/\Hid (∃ es,Both w1 wr B' tb mb mb k es)) (fun i _=>n-(intOf i).toNat)
 case atStart=>exact ⟨0,rfl,Nat.zero_le _,Nat.zero_le _,hid ⟨_,BO.out⟩⟩
 case round =>
  obtain ⟨k,rfl,hk,hk2,HB⟩:=hrel;clear BO;have hwr:IntKind.i64.wrap ((k:Int)+1)=(k:Int)+1:=IntWalk.i64_in _ (by omega)
  by_cases hgo:k<n/\k<100
  rotate_left
  ·obtain ⟨es,hb⟩:=HB.out;have H0:=hid (hb.more (m:=100) hk2);clear hb HB hwr;have cK:=keep_run H0.out.hand (by omega)
   by_cases hkn:k<n
   have t1:(k:Int)<(n:Int):=by omega
   have t2:¬ (k:Int)<100:=by omega
   clear hgo hkn;go_wp2_with fail
   rotate_left
   have t1:¬ (k:Int)<(n:Int):=by omega
   clear hgo hkn;go_wp2_with fail
   all_goals
    refine cK.mono ?_;rintro e w4 ⟨rfl,h4,m4⟩;have ML:=hid (And.intro (H0.out.map.mod m4 H0.out.low) H0.out.low);have FEW:=hid (show es.length<=100000 from Nat.le_trans H0.out.hand.few (by omega));clear cK m4 H0
    by_cases hp:page<2
    ·have FIN:=hid (B1.out.trans (h4.below.mono B1.out.size));clear h4;go_wp2_with fail
     go_ret
     exact ⟨rfl,FIN.out⟩
    obtain ⟨sb,cS,db,cD,cP⟩:=h4.rot (by omega) page at0 y;rw [HY.out] at cP;clear h4;go_wp2_with fail
    refine cS.mono ?_;rintro e w' ⟨rfl,rfl⟩;go_wp2_with fail
    refine cD.mono ?_;rintro e w' ⟨rfl,rfl⟩;go_wp2_with fail
    refine cP.mono ?_;rintro e w5 ⟨⟨x5,rfl⟩,h5,m5⟩;have R:=hid (RotB.mk h5 (ML.out.1.mod m5 ML.out.2) ML.out.2);clear cS cD cP h5 m5 ML;go_wp2_with fail
    go_loopw [16] (fun i wr=>∃ j:Nat,i=.int .i64 (j:Int)/\j<=n4/\j<=20/\Hid (RotB w1 wr B' tb mb mb es)) (fun i _=>n4-(intOf i).toNat)
    case atStart=>exact ⟨0,rfl,Nat.zero_le _,Nat.zero_le _,R⟩
    case round =>
     obtain ⟨j,rfl,hj,hj2,HB⟩:=hrel;clear R
     by_cases hgo:j<n4/\j<20
     rotate_left
     ·have FIN:=hid (B1.out.trans (HB.out.rot.below.mono B1.out.size));clear HB
      by_cases hkn:j<n4
      have t1:(j:Int)<(n4:Int):=by omega
      have t2:¬ (j:Int)<20:=by omega
      clear hgo hkn;go_wp2_with fail
      rotate_left
      have t1:¬ (j:Int)<(n4:Int):=by omega
      clear hgo hkn;go_wp2_with fail
      all_goals
       go_ret
       exact ⟨rfl,FIN.out⟩
     have hwr2:IntKind.i64.wrap ((j:Int)+1)=(j:Int)+1:=IntWalk.i64_in _ (by omega);have t1:(j:Int)<(n4:Int):=by omega
     have t2:(j:Int)<20:=by omega
     have t3:(0:Int)<=(j:Int):=by omega
     have hjl:j<l4.length:=by have:=HL4.out;omega
     obtain ⟨b,off,rfl,hbl,hcl⟩:=HS4.out (by intro e;rw [e] at hjl;simp at hjl);have hcj:=hcl j hjl;obtain ⟨key,hkey⟩:∃ key,l4[j]=key:=⟨_,rfl⟩;rw [hkey] at hcj;obtain ⟨kv,hkv⟩:∃ kv,strB key=kv:=⟨_,rfl⟩;rw [show strV key=.string kv by rw [<- hkv]] at hcj;have KEY:=hid (show ∀ w',Below w1.heap.size w1 w'->w'.cell? ⟨b,off+j,none⟩=some (.string kv) from fun w' hb=>((B1.out.trans (hb.mono B1.out.size)).cell (p:=⟨b,off+j,none⟩) hbl).trans hcj)
     have c0:=KEY.out wr HB.out.rot.below;have cT:=rot_get HB.out.rot key;have cM:=hid (fun W (h:MapOn W mb mb es)=>mget_any h key FEW.out);obtain ⟨vv,hvv⟩:∃ vv,strB (valOf es key)=vv:=⟨_,rfl⟩;obtain ⟨hs,hhs⟩:∃ b,hasOf (keysOf es) key=b:=⟨_,rfl⟩;rw [show strV key=.string kv by rw [<- hkv],show strV (valOf es key)=.string vv by rw [<- hvv],hhs] at cT cM;have K2:j+1<=n4/\j+1<=20:=by omega
     clear hkv hvv hhs hcl hcj hkey hjl hbl hgo hj hj2
     by_cases hlen:kv.size<=100
     rotate_left
     ·have t4:(100:Int)<(kv.size:Int):=by omega
      clear hlen cT cM KEY;go_wp2_with fail
      go_roundw
      case rel=>exact ⟨j+1,by go_num,K2.1,K2.2,HB⟩
      case measure=>simp [intOf];omega
     have t4:¬ (100:Int)<(kv.size:Int):=by omega
     clear hlen;go_wp2_with fail
     refine cT.mono ?_;rintro e w6 ⟨he,h6,m6⟩;have R6:=hid (HB.out.step h6 m6);have c1:=KEY.out w6 h6.below;have cG:=cM.out w6 R6.out.map;clear cT cM h6 m6 HB KEY c0;rcases he with rfl | rfl
     all_goals
      go_wp2_with fail
      refine cG.mono ?_;rintro e w7 ⟨rfl,b7⟩;have R7:=hid (R6.out.quiet b7);clear b7 cG R6 c1;rcases hs with _ | _
      all_goals
       go_wp2_with fail
       go_roundw
       case rel=>exact ⟨j+1,by go_num,K2.1,K2.2,R7⟩
       case measure=>simp [intOf];omega
  obtain ⟨es,hb⟩:=HB.out;have H0:=hid hb;have t1:(k:Int)<(n:Int):=by omega
  have t2:(k:Int)<100:=by omega
  have t3:(0:Int)<=(k:Int):=by omega
  have hkl:k<l.length:=by have:=HL.out;omega
  obtain ⟨b,off,rfl,hbl,hc⟩:=HS.out (by intro e;rw [e] at hkl;simp at hkl);have hcx:=hc k hkl;obtain ⟨x,hx⟩:∃ x,l[k]=x:=⟨_,rfl⟩;rw [hx] at hcx;have L:=hid (show ∀ w',Below w1.heap.size w1 w'->(Instr.loadAt 32 (.pointer (some ⟨b,off+k*3,none⟩))).run Tryz.prog w'=.ok (.agg (callT x)) w' from fun w' hb'=>load_callT (Store.range_below hcx hbl (B1.out.trans (hb'.mono B1.out.size))));have cS:=small_any x wr
  have cD0:=hid (show ∀ w4,Both w1 w4 B' tb mb mb k es->Calls Tryz.prog 14 #[ptr tb,ptr mb,.agg (callT x)] w4 (fun e w'=>e=.returned (.bool true)/\∃ es',Both w1 w' B' tb mb mb (k+1) es') from fun w4 h=>(did_any h (by omega) x.kind x.key x.val).mono (fun e w' ⟨h1,h2,_⟩=>⟨h1,_,h2⟩));have K2:k+1<=n/\k+1<=100:=by omega
  obtain ⟨sm,hsm⟩:∃ sm,decide (x.key.length<=100/\x.val.length<=200)=sm:=⟨_,rfl⟩;rw [hsm] at cS;obtain ⟨cv,hcv⟩:∃ cv,callT x=cv:=⟨_,rfl⟩;rw [hcv] at cS L cD0;have l0:=L.out wr H0.out.below;clear hc hcx hb HB hgo hx hk hk2 hkl hbl hcv hsm;have L0:=hid l0;clear l0;go_wp2_with (first | ((with_reducible refine Disk.wpList_load_eq rfl 32 (.tmp 42) rfl _ ?_ L0.out ?_);(next=>rfl)))
  refine cS.mono ?_;rintro e w4 ⟨rfl,b4⟩;have H4:=hid (H0.out.quiet b4);clear b4 cS H0 L0;rcases sm with _ | _
  ·have HF:=hid (H4.out.more (Nat.le_succ k));clear H4 L cD0;go_wp2_with fail
   go_roundw
   case rel=>exact ⟨k+1,by go_num,K2.1,K2.2,hid ⟨_,HF.out⟩⟩
   case measure=>simp [intOf];omega
  have L4:=hid (L.out w4 H4.out.below);have cD:=cD0.out w4 H4.out;clear L cD0;go_wp2_with (first | ((with_reducible refine Disk.wpList_load_eq rfl 32 (.tmp 49) rfl _ ?_ L4.out ?_);(next=>rfl)))
  refine cD.mono ?_;rintro e w5 ⟨rfl,es',h5⟩;have H5:=hid h5;clear cD L4 H4 h5;go_wp2_with fail
  go_roundw
  case rel=>exact ⟨k+1,by go_num,K2.1,K2.2,hid ⟨_,H5.out⟩⟩
  case measure=>simp [intOf];omega
end Go.Proofs.YtbhfammnffecoaaGreat.Tree
