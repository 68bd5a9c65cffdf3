import Derived.Test.YtbhfammnffecoaaGreatMT13
import Derived.Test.YtbhfammnffecoaaGreatXT1
import Derived.ProofKit
import Derived.OpenShut
import Derived.ChangeOld
import Derived.Below
import Derived.Deep.Slices
import Derived.Deep.MidRow
set_option maxRecDepth 100000
set_option maxHeartbeats 32000000
namespace Go.Proofs.YtbhfammnffecoaaGreat.Tree
open Go.RowKit Gen
open Disk (St Dev Mod ptr)
open Page (Pg Lay PgOk PgRows pgC pgV Enc IsDec BytesAt strV strB strB_beq PRow less Lt Rises KeyOk)
open Pool (Po NAt PoAt La poC poV numV At takeP giveP backP Fresh PoolOk OwnI chunks layAll May)
open Store
open Lib (hid)
structure Both (w0 w:World) (B:Blk) (tb lo mb k:Nat) (es:Ents):Prop where
 hand:Hand w0 w B tb k es
 map:MapOn w lo mb es
 low:∀ x∈tall tb B,x<lo
 mem:mb∈B.xs
 new:w0.heap.size<=mb
theorem Both.off {w0 w:World} {B:Blk} {tb lo mb k:Nat} {es:Ents} (h:Both w0 w B tb lo mb k es):mb∉tall tb B:=fun e=>by
 have:=h.low _ e;have:=h.map.low;omega
theorem Both.quiet {w0 w w':World} {B:Blk} {tb lo mb k:Nat} {es:Ents} (h:Both w0 w B tb lo mb k es) (b:Below w.heap.size w w'):Both w0 w' B tb lo mb k es :=
 ⟨h.hand.quiet b,h.map.below b,h.low,h.mem,h.new⟩
theorem Both.more {w0 w:World} {B:Blk} {tb lo mb k m:Nat} {es:Ents} (h:Both w0 w B tb lo mb k es) (hm:k<=m):Both w0 w B tb lo mb m es:=⟨h.hand.more hm,h.map,h.low,h.mem,h.new⟩
theorem Both.step {w0 w w1 w2:World} {B:Blk} {tb lo mb k m:Nat} {es es':Ents} (h:Both w0 w B tb lo mb k es) (h1:Hand w0 w1 B tb m es') (h2:MapOn w2 lo mb es') (m2:Mod [mb] w1 w2):Both w0 w2 B tb lo mb m es' :=
 ⟨h1.touch h.mem h.off h.new m2,h2,h.low,h.mem,h.new⟩
theorem Both.tree {w0 w w1:World} {B:Blk} {tb lo mb k m:Nat} {es:Ents} (h:Both w0 w B tb lo mb k es) (h1:Hand w0 w1 B tb m es) (m1:Mod (tall tb B) w w1):Both w0 w1 B tb lo mb m es :=
 ⟨h1,h.map.mod m1 h.low,h.low,h.mem,h.new⟩
def after (es:Ents) (kind:Int) (key val:Disk.Bs):Ents :=
 if kind=1 then (if 1<=key.length/\key.length<=48/\val.length<=100 then setP es key val else es) else if kind=2 then cutP es key else es
theorem did_any {w0 w:World} {B:Blk} {tb lo mb k:Nat} {es:Ents} (H:Both w0 w B tb lo mb k es) (hk:k<=240) (kind:Int) (key val:Disk.Bs) :
 Calls Tryz.prog 14 #[ptr tb,ptr mb,.agg #[.int .i64 kind,strV key,strV val]] w (fun e w'=>e=.returned (.bool true)/\Both w0 w' B tb lo mb (k+1) (after es kind key val)/\Mod (mb :: tall tb B) w w'/\(kind=3->Both w0 w' B tb lo mb k es)):=by
 have b1:=Pool.below_box w (.cells #[.int .i64 kind,strV key,strV val] 32);have a1:=at_new w #[.int .i64 kind,strV key,strV val] 32;obtain ⟨W1,hW1⟩:∃ W1,w.alloc (.cells #[.int .i64 kind,strV key,strV val] 32)=W1:=⟨_,rfl⟩;rw [hW1] at b1 a1;have B1:=hid b1;have A1:=hid a1;have H1:=hid (H.quiet b1);have OFF:=hid (show ∀ x∈mb :: tall tb B,x<w.heap.size from fun x hx=>by
  rcases List.mem_cons.1 hx with rfl | hx
  ·obtain ⟨A,c,hA,-⟩:=H.map.row;exact hA.1
  ·rcases Nat.lt_or_ge x w.heap.size with g | g
   ·exact g
   ·exact absurd hx (H.hand.tall g))
 have SUB1:=hid (show ∀ x∈tall tb B,x∈mb :: tall tb B from fun x hx=>List.mem_cons_of_mem _ hx);have SUB2:=hid (show ∀ x∈[mb],x∈mb :: tall tb B from fun x hx=>by rw [List.mem_singleton] at hx;rw [hx];exact List.mem_cons_self ..);have KB:=hid (show ∀ W,Mod (mb :: tall tb B) W1 W->W.cell? ⟨w.heap.size,0,none⟩=some (.int .i64 kind)/\W.cell? ⟨w.heap.size,1,none⟩=some (strV key)/\W.cell? ⟨w.heap.size,2,none⟩=some (strV val) from fun W m=>by
  have:=at_mod A1.out m (fun e=>by have:=OFF.out _ e;omega);exact ⟨this.2.2 0 _ rfl,this.2.2 1 _ rfl,this.2.2 2 _ rfl⟩)
 have MB:=hid (show ∀ W,Mod (mb :: tall tb B) W1 W->Mod (mb :: tall tb B) w W from fun W m=>(Mod.of_below _ B1.out).trans m);obtain ⟨c0,c1,c2⟩:=KB.out W1 (Mod.refl _ _);obtain ⟨wb,hwb⟩:∃ wb,w.heap.size=wb:=⟨_,rfl⟩;rw [hwb] at c0 c1 c2 KB;have EW:=hid hwb;clear a1 b1 H
 by_cases h1:kind=1
 ·subst h1;have e1:after es 1 key val=if 1<=key.length/\key.length<=48/\val.length<=100 then setP es key val else es:=if_pos rfl
  have D1:=hid ((Mod.refl (mb :: tall tb B) W1).drew)
  by_cases hg:1<=key.length/\key.length<=48/\val.length<=100
  ·rw [if_pos hg] at e1;rw [e1];have HX:=hid (H1.out.quiet (Below.refl _ _).drew);have cS:=set_run HX.out.hand hk key val hg.1 hg.2.1 hg.2.2;have cM:=hid (fun W (h:MapOn W lo mb es)=>mset_any h HX.out.hand.sorted key val hg.1 hg.2.1 hg.2.2 (by have:=HX.out.hand.few;omega));have K0:=hid (And.intro (KB.out _ D1.out).2.1 (KB.out _ D1.out).2.2);obtain ⟨kv,hkv⟩:∃ kv,strV key=kv:=⟨_,rfl⟩;obtain ⟨vv,hvv⟩:∃ vv,strV val=vv:=⟨_,rfl⟩
   rw [hkv] at cS cM K0 KB c1 hW1 ⊢;rw [hvv] at cS cM K0 KB c2 hW1 ⊢;clear hkv hvv A1 hg e1;go_enter Tryz.func14,Tryz.ntmps14
   go_wp2_with fail
   go_region_held3 (fun w'=>w'.cell? ⟨wb,1,none⟩=some kv/\w'.cell? ⟨wb,2,none⟩=some vv)
    (with_reducible (first | exact K0.out | exact K1.out | exact K2.out))
    (first
      | (go_at_call 24;(with_reducible refine cS.mono ?_);rintro e w2 ⟨rfl,h2,m2⟩
         have M2:=hid (D1.out.trans (m2.mono SUB1.out));have K1:=hid (And.intro (KB.out _ M2.out).2.1 (KB.out _ M2.out).2.2);have HH:=hid h2;have cT:=cM.out w2 (HX.out.map.mod m2 HX.out.low);clear h2 m2 cS cM)
      | (go_at_call 25;(with_reducible refine cT.mono ?_);rintro e w3 ⟨rfl,h3,m3⟩
         have M3:=hid (M2.out.trans (m3.mono SUB2.out));have K2:=hid (And.intro (KB.out _ M3.out).2.1 (KB.out _ M3.out).2.2);have FIN:=hid (HX.out.step HH.out h3 m3);clear h3 m3 cT))
   all_goals
    go_wp2_with fail
    go_ret
    exact ⟨rfl,FIN.out,MB.out _ M3.out,fun e=>absurd e (by decide)⟩
  ·rw [if_neg hg] at e1;rw [e1];have hb:key.length<1\/48<key.length\/100<val.length:=by omega
   have HX:=hid (H1.out.quiet (Below.refl _ _).drew);have cS:=set_bad (w:=W1.drew) (tb:=tb) key val hb;have cM:=hid (fun W=>mset_bad mb key val hb W);have K0:=hid (And.intro (KB.out _ D1.out).2.1 (KB.out _ D1.out).2.2);obtain ⟨kv,hkv⟩:∃ kv,strV key=kv:=⟨_,rfl⟩;obtain ⟨vv,hvv⟩:∃ vv,strV val=vv:=⟨_,rfl⟩;rw [hkv] at cS cM K0 KB c1 hW1 ⊢;rw [hvv] at cS cM K0 KB c2 hW1 ⊢;clear hkv hvv A1 hg e1 hb;go_enter Tryz.func14,Tryz.ntmps14
   go_wp2_with fail
   go_region_held3 (fun w'=>w'.cell? ⟨wb,1,none⟩=some kv/\w'.cell? ⟨wb,2,none⟩=some vv)
    (with_reducible (first | exact K0.out | exact K1.out | exact K2.out))
    (first
      | (go_at_call 24;(with_reducible refine cS.mono ?_);rintro e w2 ⟨rfl,b2⟩
         have M2:=hid (D1.out.trans (Mod.of_below _ b2));have K1:=hid (And.intro (KB.out _ M2.out).2.1 (KB.out _ M2.out).2.2);have FIN:=hid ((HX.out.quiet b2).more (Nat.le_succ k));have cT:=cM.out w2;clear b2 cS cM)
      | (go_at_call 25;(with_reducible refine cT.mono ?_);rintro e w3 ⟨rfl,rfl⟩
         have K2:=hid K1.out;clear cT))
   all_goals
    go_wp2_with fail
    go_ret
    exact ⟨rfl,FIN.out,MB.out _ M2.out,fun e=>absurd e (by decide)⟩
 by_cases h2:kind=2
 ·subst h2;have e1:after es 2 key val=cutP es key:=by unfold after;rw [if_neg (by decide),if_pos rfl]
  rw [e1];have cS:=cut_run H1.out.hand hk key;have cM:=hid (fun W (h:MapOn W lo mb es)=>mcut_any h key (by have:=H1.out.hand.few;omega));obtain ⟨hb,hhb⟩:∃ b,hasOf (keysOf es) key=b:=⟨_,rfl⟩;rw [hhb] at cS cM;have hbb:(hb==hb)=true:=by simp
  obtain ⟨kv,hkv⟩:∃ kv,strV key=kv:=⟨_,rfl⟩;obtain ⟨vv,hvv⟩:∃ vv,strV val=vv:=⟨_,rfl⟩;rw [hkv] at cS cM KB c1 hW1 ⊢;rw [hvv] at KB c2 hW1 ⊢;clear hkv hvv A1 e1 hhb;go_enter Tryz.func14,Tryz.ntmps14
  go_wp2_with fail
  refine cS.mono ?_;rintro e w2 ⟨rfl,h2,m2⟩;have M2:=hid (m2.mono SUB1.out);have HH:=hid h2;have cT:=cM.out w2 (H1.out.map.mod m2 H1.out.low);obtain ⟨-,c1,-⟩:=KB.out _ M2.out;clear h2 m2 cS cM c0 c2;go_wp2_with fail
  refine cT.mono ?_;rintro e w3 ⟨rfl,h3,m3⟩;have M3:=hid (M2.out.trans (m3.mono SUB2.out));have FIN:=hid (H1.out.step HH.out h3 m3);clear h3 m3 cT c1;go_wp2_with fail
  go_ret
  exact ⟨rfl,FIN.out,MB.out _ M3.out,fun e=>absurd e (by decide)⟩
 have e1:after es kind key val=es:=by unfold after;rw [if_neg h1,if_neg h2]
 rw [e1];have d1:(kind==1)=false:=beq_eq_false_iff_ne.2 h1;have d2:(kind==2)=false:=beq_eq_false_iff_ne.2 h2
 by_cases h3:kind=3
 ·subst h3;clear d1 d2;have cS:=get_run H1.out.hand hk key;have cM:=hid (fun W (h:MapOn W lo mb es)=>mget_any h key (by have:=H1.out.hand.few;omega));obtain ⟨hb,hhb⟩:∃ b,hasOf (keysOf es) key=b:=⟨_,rfl⟩;obtain ⟨V,hV⟩:∃ V,valOf es key=V:=⟨_,rfl⟩;rw [hhb,hV] at cS cM;have hbb:(hb==hb)=true:=by simp
  obtain ⟨Z,hZ⟩:∃ Z,strB V=Z:=⟨_,rfl⟩;rw [show strV V=.string Z by rw [<- hZ]] at cS cM;have hzz:(Z.toList==Z.toList)=true:=by simp
  obtain ⟨kv,hkv⟩:∃ kv,strV key=kv:=⟨_,rfl⟩;obtain ⟨vv,hvv⟩:∃ vv,strV val=vv:=⟨_,rfl⟩;rw [hkv] at cS cM KB c1 hW1 ⊢;rw [hvv] at KB c2 hW1 ⊢;clear hkv hvv A1 e1 hhb hV hZ h1 h2;go_enter Tryz.func14,Tryz.ntmps14
  go_wp2_with fail
  refine cS.mono ?_;rintro e w2 ⟨rfl,b2⟩;have M2:=hid (Mod.of_below (mb :: tall tb B) b2);have H2:=hid (H1.out.quiet b2);have cT:=cM.out w2 H2.out.map;obtain ⟨-,c1,-⟩:=KB.out _ M2.out;clear b2 cS cM c0 c2;go_wp2_with fail
  refine cT.mono ?_;rintro e w3 ⟨rfl,b3⟩;have M3:=hid (M2.out.trans (Mod.of_below (mb :: tall tb B) b3));have FIN:=hid (H2.out.quiet b3);clear b3 cT c1;go_wp2_with fail
  go_ret
  exact ⟨rfl,FIN.out.more (Nat.le_succ k),MB.out _ M3.out,fun _=>FIN.out⟩
 have d3:(kind==3)=false:=beq_eq_false_iff_ne.2 h3
 by_cases h4:kind=4
 ·subst h4;clear d1 d2 d3;have cS:=keep_run H1.out.hand hk;obtain ⟨kv,hkv⟩:∃ kv,strV key=kv:=⟨_,rfl⟩;obtain ⟨vv,hvv⟩:∃ vv,strV val=vv:=⟨_,rfl⟩;rw [hkv] at KB c1 hW1 ⊢;rw [hvv] at KB c2 hW1 ⊢;clear hkv hvv A1 e1 h1 h2 h3;go_enter Tryz.func14,Tryz.ntmps14
  go_wp2_with fail
  refine cS.mono ?_;rintro e w2 ⟨rfl,h2,m2⟩;have M2:=hid (m2.mono SUB1.out);have FIN:=hid (H1.out.tree h2.hand m2);clear h2 m2 cS c0 c1 c2;go_wp2_with fail
  go_ret
  exact ⟨rfl,FIN.out,MB.out _ M2.out,fun e=>absurd e (by decide)⟩
 have d4:(kind==4)=false:=beq_eq_false_iff_ne.2 h4;obtain ⟨kv,hkv⟩:∃ kv,strV key=kv:=⟨_,rfl⟩;obtain ⟨vv,hvv⟩:∃ vv,strV val=vv:=⟨_,rfl⟩;rw [hkv] at KB c1 hW1 ⊢;rw [hvv] at KB c2 hW1 ⊢;have FIN:=hid (H1.out.more (Nat.le_succ k));have N3:=hid h3;clear hkv hvv A1 e1 h1 h2 h3 h4;go_enter Tryz.func14,Tryz.ntmps14
 go_wp2_with fail
 go_ret
 exact ⟨rfl,FIN.out,MB.out _ (Mod.refl _ _),fun e=>absurd e N3.out⟩
open Page (Pg Lay PgOk PgRows pgC pgV Enc IsDec BytesAt strV strB PRow SRow IRow less Rises Lt)
theorem spread_calm {d d':St} {t t' t2:T} {b:Pg} {n m x:Int} {ks:List Disk.Bs} {ns:List Int} (h:SpreadR d t b [n] d' t' ks ns x) (hf:fillP b<=mostP b) (hp:placeT t d.n n=(t2,m,0)) (hc:Store.Calm d) (hfine:Page.Fine b) (hk:b.kind≠4) (h0:2<=m) (h1:m<d.n) (h2:d.n<=4096) :
 x=0/\ks=[]/\ns=[m]/\t'=t2/\Store.Calm d'/\d'.n=d.n/\LayR d t n b d' t' m 0/\∃ l,Enc m b l/\d'.get m=l:=by
 have e1:partsP b=[b]:=if_neg (by omega);have e2:partsK b=[]:=if_neg (by omega);obtain ⟨t1,os1,x1,hD,hR⟩:=h;rw [e1] at hD hR;have hh:t1=t/\os1=[n]/\x1=0:=by
  cases hD with
  | done _=>exact ⟨rfl,rfl,rfl⟩
  | fail h _ _=>simp at h
  | step h _ _=>simp at h
 obtain ⟨rfl,rfl,rfl⟩:=hh;rcases hR with ⟨h,_⟩ | ⟨_,hL,hks⟩
 ·exact absurd rfl h
 cases hL with
 | done h=>simp at h
 | fail hb hl hx =>
  simp only [List.getElem?_cons_zero,Option.some.injEq] at hb;subst hb;have:=lay_calm hl hp hc hfine hk h0 h1 h2;exact absurd this.2.1 hx
 | step hb hl hr =>
  simp only [List.getElem?_cons_zero,Option.some.injEq] at hb;subst hb;have hl':=hl;obtain ⟨rfl,-,rfl,c1,c2,c3⟩:=lay_calm hl hp hc hfine hk h0 h1 h2;cases hr with
  | done _=>exact ⟨rfl,by rw [hks,if_pos rfl,e2],rfl,rfl,c1,c2,hl',c3⟩
  | fail hb _ _=>simp at hb
  | step hb _ _=>simp at hb
theorem crel_calm {d d':St} {t t' t2:T} {b:Pg} {n N r dp m r' dp' x:Int} (h:CRel n N r dp b d t d' t' r' dp' x) (hb:fillP b≠0) (hf:fillP b<=mostP b) (hp:placeT t d.n n=(t2,m,0)) (hc:Store.Calm d) (hfine:Page.Fine b) (hk:b.kind≠4) (h0:2<=m) (h1:m<d.n) (h2:d.n<=4096) :
 x=0/\r'=m/\dp'=N/\t'=t2/\Store.Calm d'/\d'.n=d.n/\LayR d t n b d' t' m 0/\∃ l,Enc m b l/\d'.get m=l:=by
 rcases h with ⟨e,_⟩ | ⟨_,d1,t1,ks,ns,x1,hR,hh⟩
 ·exact absurd e hb
 obtain ⟨rfl,rfl,rfl,rfl,c1,c2,c3,c4⟩:=spread_calm hR hf hp hc hfine hk h0 h1 h2;rcases hh with ⟨e,_⟩ | ⟨_,_,rfl,rfl,rfl,rfl,rfl⟩ | ⟨_,e,_⟩
 ·exact absurd rfl e
 ·exact ⟨rfl,rfl,rfl,rfl,c1,c2,c3,c4⟩
 ·exact absurd rfl e
theorem down_nil {d:St} {key:Disk.Bs} {r a:Int} {l:List Stp} (h:Down d key r l a) (hl:l.length=0):a=r/\l=[]:=by
 cases h with
 | nil=>exact ⟨rfl,rfl⟩
 | snoc=>simp at hl
theorem leaf_way {d:St} {key:Disk.Bs} {r:Int} {l:List Stp} {s:Stp} {b:Pg} (h:WayP d key r 1 l s) (hb:IsDec r (d.readB r) b):s.p=b/\s.at_=r/\l=[]:=by
 obtain ⟨hd,hl,hp,-⟩:=h;obtain ⟨e,rfl⟩:=down_nil hd (by omega);rw [e] at hp;exact ⟨Page.dec_fun hp.2.1 hb,e,rfl⟩
theorem leaf_noQ {d:St} {key:Disk.Bs} {r x:Int} {b:Pg} (h:WayQ d key r 1 x) (hr:d.readE r=0) (hb:IsDec r (d.readB r) b) (hk:b.kind=1):False:=by
 obtain ⟨l,a,hd,hl,hn,-⟩:=h;obtain ⟨rfl,rfl⟩:=down_nil hd (by omega);have:=hn hr b hb;simp at this;exact this hk
abbrev lf:Pg:=leafOf [([97],[49])]
theorem fine_lf:Page.Fine lf:=by
 refine (Page.fine1 rfl).2 ⟨⟨by simp,fun x hx=>?_,fun s hs=>?_,fun j hj=>?_⟩,rfl,rfl,rfl,rfl,rfl,rfl,rfl,rfl,rfl⟩
 ·simp only [List.mem_singleton] at hx;subst hx;show 1<=100;omega
 ·simp only [List.map_cons,List.map_nil,List.mem_singleton] at hs;subst hs;exact ⟨by decide,by decide⟩
 ·simp at hj
abbrev U2:T:={sup:=T0.sup,own:=[],base:={high:=2},pool:={high:=3},fresh:=fup (fun _=>false) 2 true}
theorem place_u {N:Int} (h:2<N):placeT T0 N 0=(U2,2,0):=by
 have e:takeP T0.pool N=({high:=3},2,0):=by
  show (if N<=2 then _ else _)=_;rw [if_neg (by omega)];rfl
 have e2:takeT T0 N=({T0 with pool:={high:=3}},2,0):=by rw [takeT,e];rfl
 rw [placeT,e2]
 rfl
abbrev U3:T:=newT U2 (leadP (superP U2 2 1 1) U2 []) []
theorem super_u:Page.SuperOk (superP U2 2 1 1):=⟨.inr ⟨by show (2:Int)<=2;omega,by show (2:Int)<=4095;omega⟩,.inl rfl,⟨by show (2:Int)<=3;omega,by show (3:Int)<=4096;omega⟩,⟨by show (0:Int)<=1;omega,by show (1:Int)<=20;omega⟩,⟨fun e=>absurd e (by decide),fun e=>absurd e (by decide)⟩,⟨by show (0:Int)<=1;omega,by show (1:Int)<=2147483647;omega⟩,⟨fun e=>absurd e (by decide),fun e=>absurd e (by decide)⟩⟩
abbrev U4:T:={U3 with pool:={high:=3,limbo:=[2]}}
theorem drop_u:dropT U3 2=(U4,0):=by
 have e3:giveP {high:=3} 2=({high:=3,limbo:=[2]},0):=by
  rw [giveP,if_pos ⟨⟨by omega,by show (2:Int)<3;omega⟩,by simp,by simp⟩];rfl
 rw [dropT,if_neg (by decide),giveT];show ({U3 with pool:=(giveP {high:=3} 2).1},(giveP {high:=3} 2).2)=_;rw [e3]
theorem set_u {d d':St} {t':T} {r' dp' c' x:Int} (hc:Store.Calm d) (hn:d.n=32) (h:ChangeD NilP (fun _=>False) (fun _ s np=>CRel s.at_ 1 0 0 (leafOf np) d T0) (fun l=>setP l [97] [49]) d T0 0 0 0 d' t' r' dp' c' x) :
 x=0/\r'=2/\dp'=1/\c'=1/\t'=U2/\Store.Calm d'/\d'.n=32/\LayR d T0 0 lf d' t' 2 0/\∃ l,Enc 2 lf l/\d'.get 2=l:=by
 rcases h with ⟨l,s,⟨rfl,rfl⟩,h,_⟩ | ⟨l,s,⟨rfl,rfl⟩,_,h,rfl⟩ | ⟨h,_⟩
 ·exact absurd h (by decide)
 ·have e:setP ([]:List (Disk.Bs×Disk.Bs)) [97] [49]=[([97],[49])]:=by decide
  have h':CRel 0 1 0 0 lf d T0 d' t' r' dp' x:=by
   have h2:=h;simp only at h2;rw [e] at h2;exact h2
  obtain ⟨rfl,rfl,rfl,rfl,g1,g2,g3,g4⟩:=crel_calm h' (by decide) (by decide) (place_u (by omega)) hc fine_lf (by decide) (by omega) (by omega) (by omega);exact ⟨rfl,rfl,rfl,by rw [if_pos rfl];simp only;rw [e];rfl,rfl,g1,g2.trans hn,g3,g4⟩
 ·exact h.elim
theorem cut_u {d d':St} {t':T} {r' dp' c' x:Int} {had:Bool} (hr:d.readE 2=0) (hb:IsDec 2 (d.readB 2) lf) (h:CutD (WayP d [97] 2 1) (WayQ d [97] 2 1) (fun _ s np=>CRel s.at_ 1 2 1 (leafOf np) d U3) [97] d U3 2 1 1 d' t' r' dp' c' x had) :
 x=0/\r'=0/\dp'=0/\c'=0/\had=true/\t'=U4/\d'=d:=by
 rcases h with ⟨l,s,hp,h,_⟩ | ⟨l,s,hp,_,h,rfl,rfl⟩ | ⟨h,_⟩
 ·rw [(leaf_way hp hb).1] at h;exact absurd h (by decide)
 ·obtain ⟨e1,e2,-⟩:=leaf_way hp hb;have e:cutP [(([97]:Disk.Bs),([49]:Disk.Bs))] [97]=[]:=by decide
  have h':CRel 2 1 2 1 (leafOf []) d U3 d' t' r' dp' x:=by
   have h2:=h;rw [e1,e2,show lf.pairs=[([97],[49])] from rfl,e] at h2;exact h2
  rcases h' with ⟨_,rfl,rfl,rfl,⟨_,rfl,rfl⟩ | ⟨hx,_⟩⟩ | ⟨h0,_⟩
  ·rw [drop_u,e1];exact ⟨rfl,rfl,rfl,rfl,by decide,rfl,rfl⟩
  ·rw [drop_u] at hx;exact absurd rfl hx
  ·exact absurd rfl h0
 ·exact (leaf_noQ h hr hb rfl).elim
theorem cut_v {d d':St} {t':T} {r' dp' c' x:Int} {had:Bool} (h:CutD NilP (fun _=>False) (fun _ s np=>CRel s.at_ 1 0 0 (leafOf np) d U4) [97] d U4 0 0 0 d' t' r' dp' c' x had) :
 x=0/\r'=0/\dp'=0/\c'=0/\had=false:=by
 rcases h with ⟨l,s,⟨rfl,rfl⟩,_,rfl,rfl,rfl,rfl,rfl,rfl,rfl⟩ | ⟨l,s,⟨rfl,rfl⟩,h,_⟩ | ⟨h,_⟩
 ·exact ⟨rfl,rfl,rfl,rfl,by decide⟩
 ·exact absurd (by decide) h
 ·exact h.elim
theorem i64_1:I64 1:=⟨by omega,by omega⟩
theorem i64_2:I64 2:=⟨by omega,by omega⟩
theorem way_leaf {w0 w:World} {B:Blk} {tb:Nat} {d:St} {t:T} {r c:Int} (h:TrOn w0 w B tb d t r 1 c) (key:Disk.Bs) (W:World) (hb:Below w.heap.size w W) :
 Calls Tryz.prog 58 #[ptr tb,strV key] W (WayOk (WayP d key r 1) (WayQ d key r 1) W):=by
 obtain ⟨a,s⟩:=(h.quiet hb).sto.has;exact way_full s (m:=0) (by omega) (h.quiet hb).box key
theorem get_u {w0 w:World} {B:Blk} {tb:Nat} {d:St} {t:T} {c:Int} (h:TrOn w0 w B tb d t 2 1 c) (hr:d.readE 2=0) (hb:IsDec 2 (d.readB 2) lf) (key v:Disk.Bs) (b:Bool) (hv:valOf lf.pairs key=v) (hh:hasOf (keysOf lf.pairs) key=b) :
 Calls Tryz.prog 29 #[ptr tb,strV key] w (fun e w'=>e=.returned (.tuple #[strV v,.bool b,numV 0])/\Below w.heap.size w w'):=by
 refine (get_any h key (P:=WayP d key 2 1) (Q:=WayQ d key 2 1) (fun l s hp=>by have:=wayP_leaf hp;exact ⟨this.1,by omega⟩) (way_leaf h key)).mono ?_;rintro e w' (⟨l,s,hp,rfl,bl⟩ | ⟨x,hq,_⟩)
 ·rw [(leaf_way hp hb).1,hv,hh];exact ⟨rfl,bl⟩
 ·exact (leaf_noQ hq hr hb rfl).elim
theorem awake_any (w:World):Calls Tryz.prog 11 #[] w (fun e w'=>e=.returned (.bool true)/\Below w.heap.size w w'):=by
 have cN:Calls Tryz.prog 12 #[.int .i64 32] w _:=new_any 32 (by omega) (by omega) w;go_enter Tryz.func11,Tryz.ntmps11
 go_wp2_with fail
 refine cN.mono ?_;rintro e w1 ⟨B,tb,d1,rfl,H1,sf,cm,hn⟩;have H1':=hid H1;have SF:=hid sf;have CM:=hid cm;have HN:=hid (show d1.n=32 from hn);have MEM:=hid H1.mem;have cS:Calls Tryz.prog 24 #[ptr tb,.string {data:=#[97]},.string {data:=#[49]}] w1 _:=set_first H1 (by omega) [97] [49] (by decide) (by decide) (by decide);clear H1 sf cm hn cN;go_wp2_with fail
 refine cS.mono ?_;rintro e w2 ⟨d2,t2,r2,dp2,c2,x2,rfl,hR,m2,hok,-⟩;obtain ⟨rfl,rfl,rfl,rfl,rfl,cm2,n2,hl,la,hla,hga⟩:=set_u CM.out HN.out hR;have H2:=hid (hok rfl);have ST:=(Pre.refl SF.out.pre).lay SF.out.pre hl;have P2:=hid (ST.pre SF.out.pre);have CM2:=hid cm2;have N2:=hid n2;have LA:=hid (show Enc 2 lf la/\d2.get 2=la from ⟨hla,hga⟩);have rd:=on_read cm2.1 (x:=2) (by omega) (by rw [n2];omega)
 have RD:=hid (show d2.readE 2=0/\IsDec 2 (d2.readB 2) lf from ⟨rd.1,by rw [rd.2,hga];exact Page.dec_of_enc hla (by show 0<_;omega)⟩);clear hR m2 hok hl hla hga rd cm2 n2 ST SF CM HN H1' cS;have cG:Calls Tryz.prog 29 #[ptr tb,.string {data:=#[97]}] w2 _:=get_u H2.out RD.out.1 RD.out.2 [97] [49] true (by decide) (by decide);go_wp2_with fail
 refine cG.mono ?_;rintro e w3 ⟨rfl,b3⟩;have H3:=hid (H2.out.quiet b3);have cH:Calls Tryz.prog 29 #[ptr tb,.string {data:=#[98]}] w3 _:=get_u H3.out RD.out.1 RD.out.2 [98] [] false (by decide) (by decide);clear b3 cG H2;go_wp2_with fail
 refine cH.mono ?_;rintro e w4 ⟨rfl,b4⟩;have H4:=hid (H3.out.quiet b4);have cD:=depth_any H4.out.box;have cC:=count_any H4.out.box;have cR:=root_any H4.out.box;clear b4 cH H3;go_wp2_with fail
 refine cD.mono ?_;rintro e w' ⟨rfl,rfl⟩;clear cD;go_wp2_with fail
 refine cC.mono ?_;rintro e w' ⟨rfl,rfl⟩;clear cC;go_wp2_with fail
 refine cR.mono ?_;rintro e w' ⟨rfl,rfl⟩;clear cR;have cB:Calls Tryz.prog 24 #[ptr tb,.string {data:=#[]},.string {data:=#[]}] w4 _:=set_bad [] [] (.inl (by decide));go_wp2_with fail
 refine cB.mono ?_;rintro e w5 ⟨rfl,b5⟩;have H5:=hid (H4.out.quiet b5);have cK:=keep_any H5.out i64_2 i64_1 i64_1 (by show 0<=100000;omega) (fun x hx=>by cases hx);clear b5 cB H4;go_wp2_with fail
 refine cK.mono ?_;rintro e w6 ⟨d3,t3,x,rfl,hc,-,hok,-⟩;obtain ⟨rfl,rfl⟩:=commit_few hc CM2.out (by rw [N2.out];omega) rfl rfl super_u;rcases commit_ends P2.out (by show 1+1<_;omega) hc with ⟨hx,-⟩ | ⟨hx,-⟩ | ⟨-,md⟩
 ·exact absurd rfl hx
 ·exact absurd rfl hx
 have H6:=hid (hok rfl);have hlive:Live U3.base 2:=⟨by omega,by show (2:Int)<3;omega,by show (2:Int)∉layAll [] [];decide⟩;have hget:d3.get 2=la:=by
  rw [md.safe.get (.inr (.inr hlive)),md.fresh 2 rfl];exact LA.out.2
 have hcm:=md.calm CM2.out;have hn3:=md.n.trans N2.out;have rd:=on_read hcm.1 (x:=2) (by omega) (by rw [hn3];omega);have RD3:=hid (show d3.readE 2=0/\IsDec 2 (d3.readB 2) lf from ⟨rd.1,by rw [rd.2,hget];exact Page.dec_of_enc LA.out.1 (by show 0<_;omega)⟩);have cU:Calls Tryz.prog 26 #[ptr tb,.string {data:=#[97]}] w6 (DoneC (CutD (WayP d3 [97] 2 1) (WayQ d3 [97] 2 1) (fun _ s np=>CRel s.at_ 1 2 1 (leafOf np) d3 U3) [97] d3 U3 2 1 1) w B tb w6):=cut_last H6.out i64_2 (by omega) [97]
 clear hc hok md hlive hget hcm hn3 rd cK H5 P2 CM2 N2 LA RD;go_wp2_with fail
 refine cU.mono ?_;rintro e w7 ⟨d4,t4,r4,dp4,c4,x,had,rfl,hR,-,hok,-⟩;obtain ⟨rfl,rfl,rfl,rfl,rfl,rfl,rfl⟩:=cut_u RD3.out.1 RD3.out.2 hR;have H7:=hid (hok rfl);have cV:Calls Tryz.prog 26 #[ptr tb,.string {data:=#[97]}] w7 (DoneC (CutD NilP (fun _=>False) (fun _ s np=>CRel s.at_ 1 0 0 (leafOf np) d4 U4) [97] d4 U4 0 0 0) w B tb w7):=cut_none H7.out (by omega) [97];have hb1:(true&&decide ((0:Int)=0))=true:=by decide
 rw [hb1];clear hR hok cU H6 RD3 hb1;go_wp2_with fail
 refine cV.mono ?_;rintro e w8 ⟨d5,t5,r5,dp5,c5,x,had,rfl,hR,-,hok,-⟩;obtain ⟨rfl,rfl,rfl,rfl,rfl⟩:=cut_v hR;have H8:=hok rfl;have cD:=depth_any H8.box;have cC:=count_any H8.box;have cT:=store_any H8.box;have FIN:=hid (H8.below (Mod.refl _ _));have hb2:(false&&decide ((0:Int)=0))=false:=by decide
 rw [hb2];have hs:(strB [49]).toList=[49]:=Page.strB_list _;clear hR hok cV H7 hb2 H8;go_wp2_with fail
 refine cD.mono ?_;rintro e w' ⟨rfl,rfl⟩;clear cD;go_wp2_with fail
 refine cC.mono ?_;rintro e w' ⟨rfl,rfl⟩;clear cC;go_wp2_with fail
 refine cT.mono ?_;rintro e w' ⟨rfl,rfl⟩;clear cT;go_wp2_with fail
 go_ret
 exact ⟨rfl,FIN.out⟩
end Go.Proofs.YtbhfammnffecoaaGreat.Tree
namespace Go.Proofs.YtbhfammnffecoaaGreat.Page
open Go.ChangeShapes Go.WideShapes Go.ChangeAt Go.WideMaps Go.WideElems Go.RowKit Go.Deep Gen
open Lib (hid)
theorem row_of {α:Type} {enc:α->Value} {W:World} {a:Addr} {l:List α} (h:∀ j (hj:j<l.length),W.cell? (a.add j)=some (enc l[j])):RowG W enc (some a) l:=fun hne=>by
 have h0:0<l.length:=List.length_pos_iff.2 hne;obtain ⟨b,off,spot⟩:=a;have hspot:spot=none:=by simpa [Addr.add] using World.cell?_spot (h 0 h0)
 subst hspot;have e0:=h 0 h0;rw [add_none] at e0;refine ⟨b,off,rfl,block_lt_of_cell e0,fun j hj=>?_⟩;rw [<- add_none];exact h j hj
section
variable {H:Type} {enc:TypeId×Value->H} {W:World} {fuel:Nat} {cs:List Value} {x:DataW H×List MemPlace}
theorem open_strs1 (hf:DataW.trod enc Tryz.prog W 0 (fun _=>true) true fuel 57 cs=some x):∃ (A:Option Addr) (c:Nat) (l:List Bs),cs=[.slice A l.length c]/\l.length<=c/\c<=maxLen/\SRow W A l:=by
 rcases open_slice1 Tryz.underlying57 (by kernel_rfl) hf with ⟨rfl,_⟩ | ⟨a,len,cap,m,n,V,D,Pl,rfl,_,hl,hm,hmm,_,hi⟩
 ·exact ⟨none,0,[],rfl,Nat.le_refl _,Nat.zero_le _,fun h=>absurd rfl h⟩
 ·have hmc:m=cap:=by simpa using hmm
  subst hmc;obtain ⟨l,hll,hp⟩:=list_of (fun j l=>W.cell? (a.add j)=some (strV l)) len (fun j hj=>by
   obtain ⟨h1,h2⟩:=hi j (by omega);obtain ⟨l,e⟩:=open_str1 h2;rw [(List.cons.inj e).1] at h1;exact ⟨l,h1⟩)
  exact ⟨some a,m,l,by rw [hll],by omega,hm,row_of hp⟩
end
end Go.Proofs.YtbhfammnffecoaaGreat.Page
namespace Go.Proofs.YtbhfammnffecoaaGreat.Tree
open Go.RowKit Gen
open Disk (St Dev Mod ptr)
open Page (Pg Lay PgOk PgRows pgC pgV strV strB)
open Pool (numV At)
open Store
open Lib (hid)
theorem own:ownKnob Tryz.prog.godebug=none:=by kernel_rfl
open Go.ChangeShapes Go.WideShapes Go.ChangeAt Go.WideMaps Go.WideElems Go.RowKit Go.Deep Gen
open Page
structure CallT where
 kind:Int
 key:Disk.Bs
 val:Disk.Bs
abbrev callT (x:CallT):Array Value:=#[.int .i64 x.kind,strV x.key,strV x.val]
def Script (W:World) (A:Option Addr) (l:List CallT):Prop:=l≠[]->∃ b off,A=some ⟨b,off,none⟩/\b<W.heap.size/\∀ j (h:j<l.length),W.rangeAt b (off+j*3) (callT l[j]).toList
theorem cells_tcall:Tryz.prog.cellsOf 32=3:=by kernel_rfl
theorem size_tcall:(Tryz.prog.info? 32).map (·.size)=some 3:=by kernel_rfl
theorem load_callT {w:World} {b o:Nat} {x:CallT} (h:w.rangeAt b o (callT x).toList):(Instr.loadAt 32 (.pointer (some ⟨b,o,none⟩))).run Tryz.prog w=.ok (.agg (callT x)) w:=by
 have:=run_loadAt_mid (P:=Tryz.prog) w b o 32 (callT x).toList _ h Tryz.underlying32 rfl (by simpa using size_tcall)
 simpa using this
section
variable {H:Type} {enc:TypeId×Value->H} {W:World} {fuel:Nat} {x:DataW H×List MemPlace}
theorem open_tcall {cs':List Value} (hf:DataW.trod enc Tryz.prog W 0 (fun _=>true) true fuel 32 cs'=some x):∃ c:CallT,cs'=(callT c).toList:=by
 obtain ⟨xs,n,_,_,hlen,hxl,hg⟩:=DataW.trod_struct Tryz.underlying32 hf;rw [cells_tcall] at hlen;have h0:=hg 0 _ rfl;have h1:=hg 1 _ rfl;have h2:=hg 2 _ rfl
 match cs',hlen,xs,hxl with
 | [v0,v1,v2],_,[y0,y1,y2],_ =>
  simp only [List.getElem?_cons_succ,List.getElem?_cons_zero] at h0 h1 h2;obtain ⟨k0,e0,_,w0⟩:=DataW.trod_int Tryz.underlying3 h0;obtain ⟨s1,e1⟩:=open_str1 h1;obtain ⟨s2,e2⟩:=open_str1 h2;refine ⟨⟨k0,s1,s2⟩,?_⟩;rw [(List.cons.inj (show [v0]=[Value.int .i64 k0] from e0)).1,(List.cons.inj e1).1,(List.cons.inj e2).1]
end
theorem open_script {H:Type} {enc:TypeId×Value->H} {W:World} {base:Nat} {v:Value} {d:DataW H} {ps:List MemPlace} (hval:Value.okWide Tryz.prog W .any base 23 v)
 (h:DataW.Trod enc Tryz.prog W 0 (fun _=>true) true 23 v d ps):∃ (A:Option Addr) (n c:Nat) (l:List CallT),v=.slice A n c/\l.length=n/\n<=c/\c<=maxLen/\Script W A l:=by
 obtain ⟨a0,len,cap,rfl⟩:=okWide_slice Tryz.underlying23 hval;obtain ⟨fuel,hf⟩:=h;rcases open_slice Tryz.underlying23 hf with ⟨hcs,_⟩ | ⟨a,len',cap',m,n,D,Pl,hcs,_,hl,hm,hmm,_,hi⟩
 ·simp [Value.cells] at hcs;obtain ⟨rfl,rfl,rfl⟩:=hcs;exact ⟨none,0,0,[],rfl,rfl,Nat.le_refl _,Nat.zero_le _,fun h=>absurd rfl h⟩
 ·simp [Value.cells] at hcs;obtain ⟨rfl,rfl,rfl⟩:=hcs;have hmc:m=cap:=by simpa using hmm
  subst hmc;obtain ⟨l,hll,hp⟩:=list_of (fun j c=>W.cells? 0 (a.add (j*3)) 3=some (callT c).toList) len (fun j hj=>by
   obtain ⟨cs',hc,ht⟩:=hi j (by omega);rw [cells_tcall] at hc;obtain ⟨c,rfl⟩:=open_tcall ht;exact ⟨c,hc⟩)
  refine ⟨some a,len,m,l,rfl,hll,hl,hm,fun hne=>?_⟩;have h0:0<l.length:=List.length_pos_iff.2 hne;obtain ⟨b,off,spot⟩:=a;have g0:=(World.cells?_some (hp 0 h0)).2.2 0 (by simp);have hspot:spot=none:=by simpa [Addr.add] using World.cell?_spot g0
  subst hspot;rw [add_none,add_none] at g0;refine ⟨b,off,rfl,block_lt_of_cell g0,fun j hj i v hv=>?_⟩;have g:=(World.cells?_some (hp j hj)).2.2;simp only [add_none] at g;have hi:i<((callT l[j]).toList).length:=(List.getElem?_eq_some_iff.1 hv).1;exact (g i (by simpa using hi)).trans hv
theorem small_any (x:CallT) (w:World):Calls Tryz.prog 13 #[.agg (callT x)] w (fun e w'=>e=.returned (.bool (decide (x.key.length<=100/\x.val.length<=200)))/\Below w.heap.size w w'):=by
 have b1:=Pool.below_box w (.cells (callT x) 32);have a1:=Store.at_new w (callT x) 32;obtain ⟨k,y,v⟩:=x;obtain ⟨ks,hks⟩:∃ ks,strB y=ks:=⟨_,rfl⟩;obtain ⟨vs,hvs⟩:∃ vs,strB v=vs:=⟨_,rfl⟩;have k1:ks.size=y.length:=by rw [<- hks];exact Page.strB_size y
 have v1:vs.size=v.length:=by rw [<- hvs];exact Page.strB_size v
 have ek:strV y=.string ks:=by rw [<- hks]
 have ev:strV v=.string vs:=by rw [<- hvs]
 rw [show (decide ((⟨k,y,v⟩:CallT).key.length<=100/\(⟨k,y,v⟩:CallT).val.length<=200))=decide (ks.size<=100/\vs.size<=200) by rw [k1,v1]];have e0:callT ⟨k,y,v⟩=#[.int .i64 k,.string ks,.string vs]:=by show #[_,strV y,strV v]=_;rw [ek,ev]
 rw [e0] at b1 a1 ⊢;obtain ⟨W1,hW1⟩:∃ W1,w.alloc (.cells #[.int .i64 k,.string ks,.string vs] 32)=W1:=⟨_,rfl⟩;rw [hW1] at b1 a1;have c1:W1.cell? ⟨w.heap.size,1,none⟩=some (.string ks):=a1.2.2 1 _ rfl;have c2:W1.cell? ⟨w.heap.size,2,none⟩=some (.string vs):=a1.2.2 2 _ rfl;have B1:=hid b1;clear b1 a1 hks hvs k1 v1 ek ev e0
 by_cases h1:ks.size<=100
 ·by_cases h2:vs.size<=200
  ·have ed:decide (ks.size<=100/\vs.size<=200)=true:=decide_eq_true ⟨h1,h2⟩;rw [ed];have t1:(ks.size:Int)<=100:=by omega
   have t2:(vs.size:Int)<=200:=by omega
   clear h1 h2 ed;go_enter Tryz.func13,Tryz.ntmps13
   go_wp2_with fail
   go_ret
   exact ⟨rfl,B1.out⟩
  ·have ed:decide (ks.size<=100/\vs.size<=200)=false:=decide_eq_false (fun h=>h2 h.2);rw [ed];have t1:(ks.size:Int)<=100:=by omega
   have t2:¬ (vs.size:Int)<=200:=by omega
   clear h1 h2 ed;go_enter Tryz.func13,Tryz.ntmps13
   go_wp2_with fail
   go_ret
   exact ⟨rfl,B1.out⟩
 ·have ed:decide (ks.size<=100/\vs.size<=200)=false:=decide_eq_false (fun h=>h1 h.1);rw [ed];have t1:¬ (ks.size:Int)<=100:=by omega
  clear h1 ed;go_enter Tryz.func13,Tryz.ntmps13
  go_wp2_with fail
  go_ret
  exact ⟨rfl,B1.out⟩
end Go.Proofs.YtbhfammnffecoaaGreat.Tree
