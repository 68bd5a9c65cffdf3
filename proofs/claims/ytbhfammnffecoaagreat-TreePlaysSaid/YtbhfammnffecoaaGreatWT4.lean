import Derived.Test.YtbhfammnffecoaaGreatMT13
import Derived.Test.YtbhfammnffecoaaGreatWT1
import Derived.Test.YtbhfammnffecoaaGreatWT3
set_option maxRecDepth 100000
set_option maxHeartbeats 32000000
namespace Go.Proofs.YtbhfammnffecoaaGreat.Tree
open Go.RowKit Gen
open Disk (St Dev Mod ptr)
open Page (Pg Lay PgOk PgRows pgC pgV Enc IsDec BytesAt strV strB PRow less Lt Rises KeyOk)
open Pool (Po NAt PoAt La poC poV numV At takeP giveP backP Fresh PoolOk OwnI chunks layAll May)
open Store
open Lib (hid)
theorem Both.below {w0 w:World} {B:Blk} {tb lo mb k:Nat} {es:Ents} (h:Both w0 w B tb lo mb k es):Below w0.heap.size w0 w:=by
 obtain ⟨d,t,r,dp,c,K,h1,h2⟩:=h.hand;exact h1.below (Mod.refl _ _)
theorem both_new {w0 w:World} {B:Blk} {tb k:Nat} (h:Hand w0 w B tb k []):Both w0 (w.alloc (.cells #[.slice none 0 0] 29)) (withX B w.heap.size) tb w.heap.size w.heap.size k []:=by
 have b:=Pool.below_box w (.cells #[.slice none 0 0] 29);have a:=at_new w #[.slice none 0 0] 29;have hw0:w0.heap.size<=w.heap.size:=by
  obtain ⟨d,t,r,dp,c,K,h1,h2⟩:=h;exact (h1.below (Mod.refl _ _)).size
 refine ⟨h.withx b (Nat.le_refl _) a.1,⟨Nat.le_refl _,none,0,a,fun h=>absurd rfl h,fun _=>rfl,Nat.le_refl _,fun x e=>by cases e⟩,fun x hx=>?_,List.mem_cons_self ..,hw0⟩;rcases Nat.lt_or_ge x w.heap.size with g | g
 ·exact g
 ·exact absurd hx (h.tall g)
theorem plays_walk {A:Option Addr} {n c:Nat} {l:List CallT} (W:World) (hl:l.length=n) (hs:Script W A l) :
 Calls Tryz.prog 4 #[.slice A n c] W fun e W'=>e=.returned (.bool true)/\Below W.heap.size W W':=by
 have cA:=awake_any W;have HL:=hid hl;have HS:=hid hs;clear hl hs;go_enter Tryz.func4,Tryz.ntmps4
 go_wp2_with fail
 refine cA.mono ?_;rintro e w1 ⟨rfl,b1⟩;have cN:=new_run w1;have B1:=hid b1;clear b1 cA;go_wp2_with fail
 refine cN.mono ?_;rintro e w2 ⟨B,tb,rfl,h2,-⟩;have BO:=both_new h2;obtain ⟨mb,hmb⟩:∃ mb,w2.heap.size=mb:=⟨_,rfl⟩;obtain ⟨w3,hw3⟩:∃ w3,w2.alloc (.cells #[.slice none 0 0] 29)=w3:=⟨_,rfl⟩;have EM:=hid hmb;have EW:=hid hw3;rw [hw3,hmb] at BO;obtain ⟨B',hB⟩:∃ B',withX B mb=B':=⟨_,rfl⟩;rw [hB] at BO;have BO:=hid BO;clear h2 hB cN hmb hw3;go_wp2_with fail
 rw [EM.out,EW.out];clear EM EW;go_loopw [6] (fun i wr=>∃ k:Nat,i=.int .i64 (k:Int)/\k<=n/\k<=200/\Hid (∃ es,Both w1 wr B' tb mb mb k es)) (fun i _=>n-(intOf i).toNat)
 case atStart=>exact ⟨0,rfl,Nat.zero_le _,Nat.zero_le _,hid ⟨_,BO.out⟩⟩
 case round =>
  obtain ⟨k,rfl,hk,hk2,HB⟩:=hrel;clear BO;have hwr:IntKind.i64.wrap ((k:Int)+1)=(k:Int)+1:=IntWalk.i64_in _ (by omega)
  by_cases hgo:k<n/\k<200
  rotate_left
  ·obtain ⟨es,hb⟩:=HB.out;have H0:=hid (hb.more (m:=200) hk2);obtain ⟨N,hN⟩:∃ N,es.length=N:=⟨_,rfl⟩;have HN:=hid hN;have HN2:N<=200:=by rw [<- hN];exact Nat.le_trans hb.hand.few hk2
   clear hb HB hN hwr
   by_cases hkn:k<n
   ·have t1:(k:Int)<(n:Int):=by omega
    have t2:¬ (k:Int)<200:=by omega
    clear hgo hkn;go_wp2_with fail
    go_loopw [8] (fun i wr=>∃ j:Nat,i=.int .i64 (j:Int)/\j<=N/\Hid (Both w1 wr B' tb mb mb 200 es)) (fun i _=>N-(intOf i).toNat)
    case atStart=>exact ⟨0,rfl,Nat.zero_le _,H0⟩
    case round =>
     obtain ⟨j,rfl,hj,HB⟩:=hrel;clear H0
     by_cases hlt:j<N
     ·have hwr2:IntKind.i64.wrap ((j:Int)+1)=(j:Int)+1:=IntWalk.i64_in _ (by omega);have hjl:j<es.length:=by rw [HN.out];exact hlt
      obtain ⟨A,c,h1,h2,-⟩:=HB.out.map.row;rw [HN.out] at h1;obtain ⟨b,off,rfl,hbl,hcl⟩:=h2 (by intro e;rw [e] at hjl;simp at hjl);have c0:wr.cell? ⟨mb,0,none⟩=some (.slice (some ⟨b,off,none⟩) N c):=h1.2.2 0 _ rfl;have q1:=(hcl j hjl).1;have t1:(j:Int)<(N:Int):=by omega
      have t2:(0:Int)<=(j:Int):=by omega
      have cD:Calls Tryz.prog 14 #[ptr tb,ptr mb,.agg #[.int .i64 3,strV es[j].1,.string ⟨#[]⟩]] wr (fun e w'=>e=.returned (.bool true)/\Both w1 w' B' tb mb mb 200 es):=(did_any HB.out (by omega) 3 es[j].1 []).mono (fun e w' h=>⟨h.1,h.2.2.2 rfl⟩);obtain ⟨kv,hkv⟩:∃ kv,strB es[j].1=kv:=⟨_,rfl⟩;rw [show strV es[j].1=.string kv by rw [<- hkv]] at q1 cD;clear hkv hcl h1 h2 hbl HB hjl;go_wp2_with fail
      refine cD.mono ?_;rintro e w4 ⟨rfl,hB4⟩;have H4:=hid hB4;clear cD hB4 q1 c0;go_wp2_with fail
      go_roundw
      case rel=>exact ⟨j+1,by go_num,by omega,H4⟩
      case measure=>simp [intOf];omega
     ·obtain rfl:j=N:=by omega
      obtain ⟨A,c,h1,h2,-⟩:=HB.out.map.row;rw [HN.out] at h1;have c0:wr.cell? ⟨mb,0,none⟩=some (.slice A j c):=h1.2.2 0 _ rfl;have FIN:=hid (B1.out.trans (HB.out.below.mono B1.out.size));clear h1 h2 HB hlt hj;go_wp2_with fail
      go_ret
      exact ⟨rfl,FIN.out⟩
   ·have t1:¬ (k:Int)<(n:Int):=by omega
    clear hgo hkn;go_wp2_with fail
    go_loopw [8] (fun i wr=>∃ j:Nat,i=.int .i64 (j:Int)/\j<=N/\Hid (Both w1 wr B' tb mb mb 200 es)) (fun i _=>N-(intOf i).toNat)
    case atStart=>exact ⟨0,rfl,Nat.zero_le _,H0⟩
    case round =>
     obtain ⟨j,rfl,hj,HB⟩:=hrel;clear H0
     by_cases hlt:j<N
     ·have hwr2:IntKind.i64.wrap ((j:Int)+1)=(j:Int)+1:=IntWalk.i64_in _ (by omega);have hjl:j<es.length:=by rw [HN.out];exact hlt
      obtain ⟨A,c,h1,h2,-⟩:=HB.out.map.row;rw [HN.out] at h1;obtain ⟨b,off,rfl,hbl,hcl⟩:=h2 (by intro e;rw [e] at hjl;simp at hjl);have c0:wr.cell? ⟨mb,0,none⟩=some (.slice (some ⟨b,off,none⟩) N c):=h1.2.2 0 _ rfl;have q1:=(hcl j hjl).1;have t1:(j:Int)<(N:Int):=by omega
      have t2:(0:Int)<=(j:Int):=by omega
      have cD:Calls Tryz.prog 14 #[ptr tb,ptr mb,.agg #[.int .i64 3,strV es[j].1,.string ⟨#[]⟩]] wr (fun e w'=>e=.returned (.bool true)/\Both w1 w' B' tb mb mb 200 es):=(did_any HB.out (by omega) 3 es[j].1 []).mono (fun e w' h=>⟨h.1,h.2.2.2 rfl⟩);obtain ⟨kv,hkv⟩:∃ kv,strB es[j].1=kv:=⟨_,rfl⟩;rw [show strV es[j].1=.string kv by rw [<- hkv]] at q1 cD;clear hkv hcl h1 h2 hbl HB hjl;go_wp2_with fail
      refine cD.mono ?_;rintro e w4 ⟨rfl,hB4⟩;have H4:=hid hB4;clear cD hB4 q1 c0;go_wp2_with fail
      go_roundw
      case rel=>exact ⟨j+1,by go_num,by omega,H4⟩
      case measure=>simp [intOf];omega
     ·obtain rfl:j=N:=by omega
      obtain ⟨A,c,h1,h2,-⟩:=HB.out.map.row;rw [HN.out] at h1;have c0:wr.cell? ⟨mb,0,none⟩=some (.slice A j c):=h1.2.2 0 _ rfl;have FIN:=hid (B1.out.trans (HB.out.below.mono B1.out.size));clear h1 h2 HB hlt hj;go_wp2_with fail
      go_ret
      exact ⟨rfl,FIN.out⟩
  obtain ⟨es,hb⟩:=HB.out;have H0:=hid hb;have t1:(k:Int)<(n:Int):=by omega
  have t2:(k:Int)<200:=by omega
  have t3:(0:Int)<=(k:Int):=by omega
  have hkl:k<l.length:=by have:=HL.out;omega
  obtain ⟨b,off,rfl,hbl,hc⟩:=HS.out (by intro e;rw [e] at hkl;simp at hkl);have hcx:=hc k hkl;obtain ⟨x,hx⟩:∃ x,l[k]=x:=⟨_,rfl⟩;rw [hx] at hcx;have L:=hid (show ∀ w',Below w1.heap.size w1 w'->(Instr.loadAt 32 (.pointer (some ⟨b,off+k*3,none⟩))).run Tryz.prog w'=.ok (.agg (callT x)) w' from fun w' hb'=>load_callT (Store.range_below hcx hbl (B1.out.trans (hb'.mono B1.out.size))));have cS:=small_any x wr
  have cD0:=hid (show ∀ w4,Both w1 w4 B' tb mb mb k es->Calls Tryz.prog 14 #[ptr tb,ptr mb,.agg (callT x)] w4 (fun e w'=>e=.returned (.bool true)/\∃ es',Both w1 w' B' tb mb mb (k+1) es') from fun w4 h=>(did_any h (by omega) x.kind x.key x.val).mono (fun e w' ⟨h1,h2,_⟩=>⟨h1,_,h2⟩));have K2:k+1<=n/\k+1<=200:=by omega
  obtain ⟨sm,hsm⟩:∃ sm,decide (x.key.length<=100/\x.val.length<=200)=sm:=⟨_,rfl⟩;rw [hsm] at cS;obtain ⟨cv,hcv⟩:∃ cv,callT x=cv:=⟨_,rfl⟩;rw [hcv] at cS L cD0;have l0:=L.out wr H0.out.below;clear hc hcx hb HB hgo hx hk hk2 hkl hbl hcv hsm;have L0:=hid l0;clear l0;go_wp2_with (first | ((with_reducible refine Disk.wpList_load_eq rfl 32 (.tmp 30) rfl _ ?_ L0.out ?_);(next=>rfl)))
  refine cS.mono ?_;rintro e w4 ⟨rfl,b4⟩;have H4:=hid (H0.out.quiet b4);clear b4 cS H0 L0;rcases sm with _ | _
  ·have HF:=hid (H4.out.more (Nat.le_succ k));clear H4 L cD0;go_wp2_with fail
   go_roundw
   case rel=>exact ⟨k+1,by go_num,K2.1,K2.2,hid ⟨_,HF.out⟩⟩
   case measure=>simp [intOf];omega
  have L4:=hid (L.out w4 H4.out.below);have cD:=cD0.out w4 H4.out;clear L cD0;go_wp2_with (first | ((with_reducible refine Disk.wpList_load_eq rfl 32 (.tmp 38) rfl _ ?_ L4.out ?_);(next=>rfl)))
  refine cD.mono ?_;rintro e w5 ⟨rfl,es',h5⟩;have H5:=hid h5;clear cD L4 H4 h5;have cC:=count_run (H5.out.quiet (Below.refl _ _).drew).hand;obtain ⟨A5,c5,m1,-⟩:=H5.out.map.row;obtain ⟨N,hN⟩:∃ N,es'.length=N:=⟨_,rfl⟩;rw [hN] at m1 cC;have K0:=hid (show w5.drew.cell? ⟨mb,0,none⟩=some (.slice A5 N c5) from m1.2.2 0 _ rfl);clear m1 hN;go_wp2_with fail
  go_region_held3 (fun w'=>w'.cell? ⟨mb,0,none⟩=some (.slice A5 N c5))
   (with_reducible (first | exact K0.out))
   (first
     | (go_at_call 15;(with_reducible refine cC.mono ?_);rintro e w' ⟨rfl,rfl⟩;clear cC))
  all_goals
   go_wp2_with fail
   go_roundw
   case rel=>exact ⟨k+1,by go_num,K2.1,K2.2,hid ⟨_,H5.out.quiet (Below.refl _ _).drew⟩⟩
   case measure=>simp [intOf];omega
end Go.Proofs.YtbhfammnffecoaaGreat.Tree
