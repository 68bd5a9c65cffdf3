import Derived.Test.YtglejnkoojpelaaGreatMT13
import Derived.BigQuiet
set_option maxRecDepth 100000
set_option maxHeartbeats 32000000
namespace Go.Proofs.YtglejnkoojpelaaGreat.Tree
open Go.RowKit Gen
open Disk (St Dev Mod ptr)
open Page (Pg Lay PgOk g0c pgC pgV Enc g0v BytesAt strV strB g8x PRow less Lt g1l g3h)
open Pool (Po NAt PoAt La poC poV numV At g0k g1g g1k g2m g0g OwnI chunks layAll May)
open Store
open Lib (hid)
structure Both (w0 w:World) (B:Blk) (tb lo mb k:Nat) (es:Ents):Prop where
 hand:Hand w0 w B tb k es
 map:g7s w lo mb es
 low:∀ x∈tall tb B,x<lo
 mem:mb∈B.xs
 new:w0.heap.size<=mb
theorem Both.off {w0 w:World} {B:Blk} {tb lo mb k:Nat} {es:Ents} (h:Both w0 w B tb lo mb k es):mb∉tall tb B:=fun e=>by
 have:=h.low _ e;have:=h.map.low;omega
theorem Both.quiet {w0 w w':World} {B:Blk} {tb lo mb k:Nat} {es:Ents} (h:Both w0 w B tb lo mb k es) (b:Below w.heap.size w w'):Both w0 w' B tb lo mb k es :=
 ⟨h.hand.quiet b,h.map.below b,h.low,h.mem,h.new⟩
theorem Both.more {w0 w:World} {B:Blk} {tb lo mb k m:Nat} {es:Ents} (h:Both w0 w B tb lo mb k es) (hm:k<=m):Both w0 w B tb lo mb m es:=⟨h.hand.more hm,h.map,h.low,h.mem,h.new⟩
theorem Both.step {w0 w w1 w2:World} {B:Blk} {tb lo mb k m:Nat} {es es':Ents} (h:Both w0 w B tb lo mb k es) (h1:Hand w0 w1 B tb m es') (h2:g7s w2 lo mb es') (m2:Mod [mb] w1 w2):Both w0 w2 B tb lo mb m es' :=
 ⟨h1.touch h.mem h.off h.new m2,h2,h.low,h.mem,h.new⟩
theorem Both.tree {w0 w w1:World} {B:Blk} {tb lo mb k m:Nat} {es:Ents} (h:Both w0 w B tb lo mb k es) (h1:Hand w0 w1 B tb m es) (m1:Mod (tall tb B) w w1):Both w0 w1 B tb lo mb m es :=
 ⟨h1,h.map.mod m1 h.low,h.low,h.mem,h.new⟩
def after (es:Ents) (kind:Int) (key val:Disk.Bs):Ents :=
 if kind=1 then (if 1<=key.length/\key.length<=48/\val.length<=100 then setP es key val else es) else if kind=2 then cutP es key else es
theorem p0z {w0 w:World} {B:Blk} {tb lo mb k:Nat} {es:Ents} (H:Both w0 w B tb lo mb k es) (hk:k<=240) (kind:Int) (key val:Disk.Bs) :
 Calls Tryz.prog 18 #[ptr tb,ptr mb,.agg #[.int .i64 kind,strV key,strV val]] w (fun e w'=>e=.returned (.bool true)/\Both w0 w' B tb lo mb (k+1) (after es kind key val)/\Mod (mb :: tall tb B) w w'/\(kind=3->Both w0 w' B tb lo mb k es)):=by
 have b1:=Pool.g0a w (.cells #[.int .i64 kind,strV key,strV val] 32);have a1:=at_new w #[.int .i64 kind,strV key,strV val] 32;obtain ⟨W1,hW1⟩:∃ W1,w.alloc (.cells #[.int .i64 kind,strV key,strV val] 32)=W1:=⟨_,rfl⟩;rw [hW1] at b1 a1;have B1:=hid b1;have A1:=hid a1;have H1:=hid (H.quiet b1);have OFF:=hid (show ∀ x∈mb :: tall tb B,x<w.heap.size from fun x hx=>by
  rcases List.mem_cons.1 hx with rfl | hx
  ·obtain ⟨A,c,hA,-⟩:=H.map.row;exact hA.1
  ·rcases Nat.lt_or_ge x w.heap.size with g | g
   ·exact g
   ·exact absurd hx (H.hand.tall g))
 have SUB1:=hid (show ∀ x∈tall tb B,x∈mb :: tall tb B from fun x hx=>List.mem_cons_of_mem _ hx);have SUB2:=hid (show ∀ x∈[mb],x∈mb :: tall tb B from fun x hx=>by rw [List.mem_singleton] at hx;rw [hx];exact List.mem_cons_self ..);have KB:=hid (show ∀ W,Mod (mb :: tall tb B) W1 W->W.cell? ⟨w.heap.size,0,none⟩=some (.int .i64 kind)/\W.cell? ⟨w.heap.size,1,none⟩=some (strV key)/\W.cell? ⟨w.heap.size,2,none⟩=some (strV val) from fun W m=>by
  have:=g0l A1.out m (fun e=>by have:=OFF.out _ e;omega);exact ⟨this.2.2 0 _ rfl,this.2.2 1 _ rfl,this.2.2 2 _ rfl⟩)
 have MB:=hid (show ∀ W,Mod (mb :: tall tb B) W1 W->Mod (mb :: tall tb B) w W from fun W m=>(Mod.of_below _ B1.out).trans m);obtain ⟨c0,c1,c2⟩:=KB.out W1 (Mod.refl _ _);obtain ⟨wb,hwb⟩:∃ wb,w.heap.size=wb:=⟨_,rfl⟩;rw [hwb] at c0 c1 c2 KB;have EW:=hid hwb;clear a1 b1 H
 by_cases h1:kind=1
 ·subst h1;have e1:after es 1 key val=if 1<=key.length/\key.length<=48/\val.length<=100 then setP es key val else es:=if_pos rfl
  have D1:=hid ((Mod.refl (mb :: tall tb B) W1).drew)
  by_cases hg:1<=key.length/\key.length<=48/\val.length<=100
  ·rw [if_pos hg] at e1;rw [e1];have HX:=hid (H1.out.quiet (Below.refl _ _).drew);have cS:=p2a HX.out.hand hk key val hg.1 hg.2.1 hg.2.2;have cM:=hid (fun W (h:g7s W lo mb es)=>k8i h HX.out.hand.sorted key val hg.1 hg.2.1 hg.2.2 (by have:=HX.out.hand.few;omega));have K0:=hid (And.intro (KB.out _ D1.out).2.1 (KB.out _ D1.out).2.2);obtain ⟨kv,hkv⟩:∃ kv,strV key=kv:=⟨_,rfl⟩;obtain ⟨vv,hvv⟩:∃ vv,strV val=vv:=⟨_,rfl⟩
   rw [hkv] at cS cM K0 KB c1 hW1 ⊢;rw [hvv] at cS cM K0 KB c2 hW1 ⊢;clear hkv hvv A1 hg e1;go_enter Tryz.func18,Tryz.ntmps18
   go_wp2_with fail
   go_region_held3 (fun w'=>w'.cell? ⟨wb,1,none⟩=some kv/\w'.cell? ⟨wb,2,none⟩=some vv)
    (with_reducible (first | exact K0.out | exact K1.out | exact K2.out))
    (first
      | (go_at_call 48;(with_reducible refine cS.mono ?_);rintro e w2 ⟨rfl,h2,m2⟩
         have M2:=hid (D1.out.trans (m2.mono SUB1.out));have K1:=hid (And.intro (KB.out _ M2.out).2.1 (KB.out _ M2.out).2.2);have HH:=hid h2;have cT:=cM.out w2 (HX.out.map.mod m2 HX.out.low);clear h2 m2 cS cM)
      | (go_at_call 55;(with_reducible refine cT.mono ?_);rintro e w3 ⟨rfl,h3,m3⟩
         have M3:=hid (M2.out.trans (m3.mono SUB2.out));have K2:=hid (And.intro (KB.out _ M3.out).2.1 (KB.out _ M3.out).2.2);have FIN:=hid (HX.out.step HH.out h3 m3);clear h3 m3 cT))
   all_goals
    go_wp2_with fail
    go_ret
    exact ⟨rfl,FIN.out,MB.out _ M3.out,fun e=>absurd e (by decide)⟩
  ·rw [if_neg hg] at e1;rw [e1];have hb:key.length<1\/48<key.length\/100<val.length:=by omega
   have HX:=hid (H1.out.quiet (Below.refl _ _).drew);have cS:=k3j (w:=W1.drew) (tb:=tb) key val hb;have cM:=hid (fun W=>k6r mb key val hb W);have K0:=hid (And.intro (KB.out _ D1.out).2.1 (KB.out _ D1.out).2.2);obtain ⟨kv,hkv⟩:∃ kv,strV key=kv:=⟨_,rfl⟩;obtain ⟨vv,hvv⟩:∃ vv,strV val=vv:=⟨_,rfl⟩;rw [hkv] at cS cM K0 KB c1 hW1 ⊢;rw [hvv] at cS cM K0 KB c2 hW1 ⊢;clear hkv hvv A1 hg e1 hb;go_enter Tryz.func18,Tryz.ntmps18
   go_wp2_with fail
   go_region_held3 (fun w'=>w'.cell? ⟨wb,1,none⟩=some kv/\w'.cell? ⟨wb,2,none⟩=some vv)
    (with_reducible (first | exact K0.out | exact K1.out | exact K2.out))
    (first
      | (go_at_call 48;(with_reducible refine cS.mono ?_);rintro e w2 ⟨rfl,b2⟩
         have M2:=hid (D1.out.trans (Mod.of_below _ b2));have K1:=hid (And.intro (KB.out _ M2.out).2.1 (KB.out _ M2.out).2.2);have FIN:=hid ((HX.out.quiet b2).more (Nat.le_succ k));have cT:=cM.out w2;clear b2 cS cM)
      | (go_at_call 55;(with_reducible refine cT.mono ?_);rintro e w3 ⟨rfl,rfl⟩
         have K2:=hid K1.out;clear cT))
   all_goals
    go_wp2_with fail
    go_ret
    exact ⟨rfl,FIN.out,MB.out _ M2.out,fun e=>absurd e (by decide)⟩
 by_cases h2:kind=2
 ·subst h2;have e1:after es 2 key val=cutP es key:=by unfold after;rw [if_neg (by decide),if_pos rfl]
  rw [e1];have cS:=p0i H1.out.hand hk key;have cM:=hid (fun W (h:g7s W lo mb es)=>j6h h key (by have:=H1.out.hand.few;omega));obtain ⟨hb,hhb⟩:∃ b,g2j (keysOf es) key=b:=⟨_,rfl⟩;rw [hhb] at cS cM;have hbb:(hb==hb)=true:=by simp
  obtain ⟨kv,hkv⟩:∃ kv,strV key=kv:=⟨_,rfl⟩;obtain ⟨vv,hvv⟩:∃ vv,strV val=vv:=⟨_,rfl⟩;rw [hkv] at cS cM KB c1 hW1 ⊢;rw [hvv] at KB c2 hW1 ⊢;clear hkv hvv A1 e1 hhb;go_enter Tryz.func18,Tryz.ntmps18
  go_wp2_with fail
  refine cS.mono ?_;rintro e w2 ⟨rfl,h2,m2⟩;have M2:=hid (m2.mono SUB1.out);have HH:=hid h2;have cT:=cM.out w2 (H1.out.map.mod m2 H1.out.low);obtain ⟨-,c1,-⟩:=KB.out _ M2.out;clear h2 m2 cS cM c0 c2;go_wp2_with fail
  refine cT.mono ?_;rintro e w3 ⟨rfl,h3,m3⟩;have M3:=hid (M2.out.trans (m3.mono SUB2.out));have FIN:=hid (H1.out.step HH.out h3 m3);clear h3 m3 cT c1;go_wp2_with fail
  go_ret
  exact ⟨rfl,FIN.out,MB.out _ M3.out,fun e=>absurd e (by decide)⟩
 have e1:after es kind key val=es:=by unfold after;rw [if_neg h1,if_neg h2]
 rw [e1];have d1:(kind==1)=false:=beq_eq_false_iff_ne.2 h1;have d2:(kind==2)=false:=beq_eq_false_iff_ne.2 h2
 by_cases h3:kind=3
 ·subst h3;clear d1 d2;have cS:=p1u H1.out.hand hk key;have cM:=hid (fun W (h:g7s W lo mb es)=>k9b h key (by have:=H1.out.hand.few;omega));obtain ⟨hb,hhb⟩:∃ b,g2j (keysOf es) key=b:=⟨_,rfl⟩;obtain ⟨V,hV⟩:∃ V,valOf es key=V:=⟨_,rfl⟩;rw [hhb,hV] at cS cM;have hbb:(hb==hb)=true:=by simp
  obtain ⟨Z,hZ⟩:∃ Z,strB V=Z:=⟨_,rfl⟩;rw [show strV V=.string Z by rw [<- hZ]] at cS cM;have hzz:(Z.toList==Z.toList)=true:=by simp
  obtain ⟨kv,hkv⟩:∃ kv,strV key=kv:=⟨_,rfl⟩;obtain ⟨vv,hvv⟩:∃ vv,strV val=vv:=⟨_,rfl⟩;rw [hkv] at cS cM KB c1 hW1 ⊢;rw [hvv] at KB c2 hW1 ⊢;clear hkv hvv A1 e1 hhb hV hZ h1 h2;go_enter Tryz.func18,Tryz.ntmps18
  go_wp2_with fail
  refine cS.mono ?_;rintro e w2 ⟨rfl,b2⟩;have M2:=hid (Mod.of_below (mb :: tall tb B) b2);have H2:=hid (H1.out.quiet b2);have cT:=cM.out w2 H2.out.map;obtain ⟨-,c1,-⟩:=KB.out _ M2.out;clear b2 cS cM c0 c2;go_wp2_with fail
  refine cT.mono ?_;rintro e w3 ⟨rfl,b3⟩;have M3:=hid (M2.out.trans (Mod.of_below (mb :: tall tb B) b3));have FIN:=hid (H2.out.quiet b3);clear b3 cT c1;go_wp2_with fail
  go_ret
  exact ⟨rfl,FIN.out.more (Nat.le_succ k),MB.out _ M3.out,fun _=>FIN.out⟩
 have d3:(kind==3)=false:=beq_eq_false_iff_ne.2 h3
 by_cases h4:kind=4
 ·subst h4;clear d1 d2 d3;have cS:=k7w H1.out.hand hk;obtain ⟨kv,hkv⟩:∃ kv,strV key=kv:=⟨_,rfl⟩;obtain ⟨vv,hvv⟩:∃ vv,strV val=vv:=⟨_,rfl⟩;rw [hkv] at KB c1 hW1 ⊢;rw [hvv] at KB c2 hW1 ⊢;clear hkv hvv A1 e1 h1 h2 h3;go_enter Tryz.func18,Tryz.ntmps18
  go_wp2_with fail
  refine cS.mono ?_;rintro e w2 ⟨rfl,h2,m2⟩;have M2:=hid (m2.mono SUB1.out);have FIN:=hid (H1.out.tree h2.hand m2);clear h2 m2 cS c0 c1 c2;go_wp2_with fail
  go_ret
  exact ⟨rfl,FIN.out,MB.out _ M2.out,fun e=>absurd e (by decide)⟩
 have d4:(kind==4)=false:=beq_eq_false_iff_ne.2 h4;obtain ⟨kv,hkv⟩:∃ kv,strV key=kv:=⟨_,rfl⟩;obtain ⟨vv,hvv⟩:∃ vv,strV val=vv:=⟨_,rfl⟩;rw [hkv] at KB c1 hW1 ⊢;rw [hvv] at KB c2 hW1 ⊢;have FIN:=hid (H1.out.more (Nat.le_succ k));have N3:=hid h3;clear hkv hvv A1 e1 h1 h2 h3 h4;go_enter Tryz.func18,Tryz.ntmps18
 go_wp2_with fail
 go_ret
 exact ⟨rfl,FIN.out,MB.out _ (Mod.refl _ _),fun e=>absurd e N3.out⟩
open Page (Pg Lay PgOk g0c pgC pgV Enc g0v BytesAt strV strB g0m PRow less Lt g1l g3h)
def h9r (ps:List Int) (n:Nat) (w:World) (e:Ending) (w':World):Prop:=∃ v,e=.returned (.tuple #[v,.int .i64 (n:Int),.bool true])/\OwnI w' w.heap.size v ps/\Below w.heap.size w w'
theorem k0z {w:World} {B:Blk} {d:St} {t:T} {a:Lys} (h:Sto w B d t a) {n:Int} {p:Pg} (hp:PgAt d n 1 p) (lo hi:Disk.Bs) (hr:InR lo hi p.pairs) (root:Bool) (hroot:root=true\/3<=p.pairs.length) :
 Calls Tryz.prog 58 #[ptr B.ss,.int .i64 n,.int .i64 1,strV lo,strV hi,.bool root] w (h9r [n] p.pairs.length w):=by
 have cP:=Store.g9c h n;obtain ⟨h0,h1,h2⟩:=hp;have H0:=hid h0;have H1:=hid h1;have H2:=hid h2;have HR:=hid hr;obtain ⟨X,hX⟩:∃ X,strB lo=X:=⟨_,rfl⟩;obtain ⟨Z,hZ⟩:∃ Z,strB hi=Z:=⟨_,rfl⟩;rw [show strV lo=.string X by rw [<- hX],show strV hi=.string Z by rw [<- hZ]];have HX:=hid hX;have HZ:=hid hZ;clear h0 h1 h2 hr hX hZ h;go_enter Tryz.func58,Tryz.ntmps58
 go_wp2_with fail
 refine cP.mono ?_;rintro e w1 ⟨b1,⟨hne,-⟩ | ⟨-,⟨p',y,rfl,hrows,hok,hq,-,hnew⟩ | ⟨-,hno⟩⟩⟩
 ·exact absurd H0.out hne
 rotate_left
 ·exact absurd (hno p H1.out) (by have:=H2.out;omega)
 obtain rfl:=Page.g6u H1.out hq;have P1:=hid (g1s w1 p y);have b2:=Pool.g0a w1 (.cells (pgC p y) 103);have a2:=at_new w1 (pgC p y) 103;obtain ⟨pv,hpv⟩:∃ pv,pgV p y=pv:=⟨_,rfl⟩;rw [hpv] at P1;rw [hpv];obtain ⟨W8,hW8⟩:∃ W8,w1.alloc (.cells (pgC p y) 103)=W8:=⟨_,rfl⟩;rw [hW8] at P1 b2 a2;have A2:=hid a2;have B2:=hid (b1.trans (b2.mono b1.size));have R2:=hid (hrows.below b2);obtain ⟨pb,hpb⟩:∃ pb,w1.heap.size=pb:=⟨_,rfl⟩
 have EP:=hid hpb;rw [hpb] at A2;clear hpv b1 b2 a2 cP hrows hW8 hnew hq hpb;go_wp2_with (first | ((with_reducible refine Disk.g0b rfl 103 (.tmp 15) (.tmp 30) rfl _ _ ?_ ?_ P1.out ?_);(next=>rfl);(next=>rfl)))
 have b9:=Pool.g0a W8 (.cells #[.int .i64 n] 3);have O9:=hid (show OwnI (W8.alloc (.cells #[.int .i64 n] 3)) w.heap.size (.slice (some ⟨W8.heap.size,0,none⟩) 1 1) [n] from ⟨rfl,.inr ⟨W8.heap.size,1,#[numV n],rfl,B2.out.size,heap_alloc_last W8 _,Nat.le_refl _,by unfold maxLen;omega,rfl,rfl⟩⟩);have A9:=hid (A2.out.below b9 A2.out.1);have R9:=hid (R2.out.below b9);have B9:=hid (B2.out.trans (b9.mono B2.out.size))
 obtain ⟨W9,hW9⟩:∃ W9,W8.alloc (.cells #[.int .i64 n] 3)=W9:=⟨_,rfl⟩;rw [hW9] at O9 A9 R9 B9;obtain ⟨v9,hv9⟩:∃ v9,Value.slice (some ⟨W8.heap.size,0,none⟩) 1 1=v9:=⟨_,rfl⟩;rw [hv9] at O9;rw [EP.out,hW9,hv9];clear b9 hW9 hv9 A2 R2 B2 P1 EP;have ck:W9.cell? ⟨pb,0,none⟩=some (.int .i64 1):=by rw [<- H2.out];exact A9.out.2.2 0 _ rfl
 have c1:W9.cell? ⟨pb,1,none⟩=some (.slice y.A1 p.pairs.length y.c1):=A9.out.2.2 1 _ rfl;obtain ⟨N,hN⟩:∃ N,p.pairs.length=N:=⟨_,rfl⟩;have HN:=hid hN;rw [hN] at c1 hroot ⊢;have CK:=hid ck;have C1:=hid c1;clear hN ck c1;have FIN:=hid (show ∀ q,OwnI (W9.drewN q) w.heap.size v9 [n]/\Below w.heap.size w (W9.drewN q) from fun q =>
  have b:Below W9.heap.size W9 (W9.drewN q):=⟨rfl,rfl,rfl,Nat.le_refl _,fun _ _=>rfl⟩
  ⟨O9.out.kept b,B9.out.trans (b.mono B9.out.size)⟩)
 go_loopw [18] (fun i wr=>∃ j:Nat,i=.int .i64 (j:Int)/\j<=N/\W9=wr) (fun i _=>N-(intOf i).toNat)
 case atStart=>exact ⟨0,rfl,Nat.zero_le _,rfl⟩
 case round =>
  obtain ⟨j,rfl,hj,rfl⟩:=hrel
  by_cases hlt:j<N
  ·have t1:(j:Int)<(N:Int):=by omega
   have t2:(0:Int)<=(j:Int):=by omega
   have hwr:IntKind.i64.wrap ((j:Int)+1)=(j:Int)+1:=IntWalk.i64_in _ (by
    have:=hok.pairs;have:=HN.out;omega)
   have hjl:j<p.pairs.length:=by rw [HN.out];exact hlt
   obtain ⟨b,off,hA,hb,hc⟩:=R9.out.r1 (by intro e;rw [e] at hjl;simp at hjl);have c1:=C1.out;rw [hA] at c1;have q1:=(hc j hjl).1;have hin:=HR.out p.pairs[j] (List.getElem_mem hjl);obtain ⟨key,hkey⟩:∃ key,p.pairs[j].1=key:=⟨_,rfl⟩;rw [hkey] at q1 hin;obtain ⟨K,hK⟩:∃ K,strB key=K:=⟨_,rfl⟩;rw [show strV key=.string K by rw [<- hK]] at q1;have d1:Op.bytesLess K.toList X.toList=false:=by
    rw [<- hK,<- HX.out,g0m,g0m];exact j3c hin.1
   have hzl:Z.toList=hi:=by rw [<- HZ.out,g0m]
   by_cases hz:Z.toList=[]
   ·clear hin hc hA hb hkey hK hjl hzl;go_wp2_with fail
    go_roundw
    case rel=>exact ⟨j+1,by go_num,by omega,trivial⟩
    case measure=>simp [intOf];omega
   ·have d2:Op.bytesLess K.toList Z.toList=true:=by
     rw [<- hK,g0m,hzl];exact hin.2 (fun e=>hz (by rw [hzl,e]))
    clear hin hc hA hb hkey hK hjl hzl;go_wp2_with fail
    go_roundw
    case rel=>exact ⟨j+1,by go_num,by omega,trivial⟩
    case measure=>simp [intOf];omega
  ·obtain rfl:j=N:=by omega
   have c1:=C1.out;have ck:=CK.out;rcases root with _ | _
   ·have h3:(3:Int)<=(j:Int):=by
     rcases hroot with h | h
     ·exact absurd h (by decide)
     ·omega
    have hd:decide ((3:Int)<=(j:Int))=true:=decide_eq_true h3;clear hlt hj hroot h3;go_wp2_with fail
    go_quiet (fail)
    go_wp2_with fail
    refine bodyPost_ret (g2a rfl) rfl ?_;exact ⟨v9,by rw [HN.out];rfl,FIN.out _⟩
   ·clear hlt hj hroot;go_wp2_with fail
    go_quiet (fail)
    go_wp2_with fail
    refine bodyPost_ret (g2a rfl) rfl ?_;exact ⟨v9,by rw [HN.out];rfl,FIN.out _⟩
open Pool (Po NAt PoAt La poC poV numV At g0k g1g g1k g2m g0g OwnI chunks layAll May g2p)
theorem g6h {α β:Type} {f:α->List β} {L:List α} {k:Nat} (h:k<L.length):(L.take (k+1)).flatMap f=(L.take k).flatMap f++f L[k]:=by
 rw [List.take_succ_eq_append_getElem h,List.flatMap_append];simp
theorem h4a {α β:Type} (f:α->List β) (L:List α) (k:Nat):((L.take k).flatMap f).length<=(L.flatMap f).length:=by
 have:L.flatMap f=(L.take k).flatMap f++(L.drop k).flatMap f:=by rw [<- List.flatMap_append,List.take_append_drop]
 rw [this,List.length_append];omega
theorem p2p {lo hi:Disk.Bs} {es:List (Disk.Bs×Disk.Bs)} (h:InR lo hi es) (hne:es≠[]) (hh:hi≠[]):Lt lo hi:=by
 obtain ⟨e,he⟩:=List.exists_mem_of_ne_nil _ hne;obtain ⟨h1,h2⟩:=h e he;have h3:=h2 hh
 by_cases hc:lo=e.1
 ·rw [hc];exact h3
 ·have:Lt lo e.1:=by
   rcases Bool.eq_false_or_eq_true (less e.1 lo) with g | g
   ·exact absurd g h1
   ·exact h0n g (fun e=>hc e.symm)
  exact g5h this h3
end Go.Proofs.YtglejnkoojpelaaGreat.Tree
