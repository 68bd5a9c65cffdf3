import Derived.Test.YtbhfammnffecoaaGreatMT13
set_option maxRecDepth 100000
set_option maxHeartbeats 32000000
namespace Go.Proofs.YtbhfammnffecoaaGreat.Tree
open Go.RowKit Gen
open Disk (St Dev Mod ptr)
open Page (Pg Lay PgOk PgRows pgC pgV Enc IsDec BytesAt strV strB strB_beq PRow less Lt Rises KeyOk)
open Pool (Po NAt PoAt La poC poV numV At takeP giveP backP Fresh PoolOk OwnI chunks layAll May)
open Store
open Lib (hid)
structure Both (w0 w:World) (B:Blk) (tb lo mb k:Nat) (es:Ents):Prop where
 hand:Hand w0 w B tb k es
 map:MapOn w lo mb es
 low:∀ x∈tall tb B,x<lo
 mem:mb∈B.xs
 new:w0.heap.size<=mb
theorem Both.off {w0 w:World} {B:Blk} {tb lo mb k:Nat} {es:Ents} (h:Both w0 w B tb lo mb k es):mb∉tall tb B:=fun e=>by
 have:=h.low _ e;have:=h.map.low;omega
theorem Both.quiet {w0 w w':World} {B:Blk} {tb lo mb k:Nat} {es:Ents} (h:Both w0 w B tb lo mb k es) (b:Below w.heap.size w w'):Both w0 w' B tb lo mb k es :=
 ⟨h.hand.quiet b,h.map.below b,h.low,h.mem,h.new⟩
theorem Both.more {w0 w:World} {B:Blk} {tb lo mb k m:Nat} {es:Ents} (h:Both w0 w B tb lo mb k es) (hm:k<=m):Both w0 w B tb lo mb m es:=⟨h.hand.more hm,h.map,h.low,h.mem,h.new⟩
theorem Both.step {w0 w w1 w2:World} {B:Blk} {tb lo mb k m:Nat} {es es':Ents} (h:Both w0 w B tb lo mb k es) (h1:Hand w0 w1 B tb m es') (h2:MapOn w2 lo mb es') (m2:Mod [mb] w1 w2):Both w0 w2 B tb lo mb m es' :=
 ⟨h1.touch h.mem h.off h.new m2,h2,h.low,h.mem,h.new⟩
theorem Both.tree {w0 w w1:World} {B:Blk} {tb lo mb k m:Nat} {es:Ents} (h:Both w0 w B tb lo mb k es) (h1:Hand w0 w1 B tb m es) (m1:Mod (tall tb B) w w1):Both w0 w1 B tb lo mb m es :=
 ⟨h1,h.map.mod m1 h.low,h.low,h.mem,h.new⟩
def after (es:Ents) (kind:Int) (key val:Disk.Bs):Ents :=
 if kind=1 then (if 1<=key.length/\key.length<=48/\val.length<=100 then setP es key val else es) else if kind=2 then cutP es key else es
theorem did_any {w0 w:World} {B:Blk} {tb lo mb k:Nat} {es:Ents} (H:Both w0 w B tb lo mb k es) (hk:k<=240) (kind:Int) (key val:Disk.Bs) :
 Calls Tryz.prog 14 #[ptr tb,ptr mb,.agg #[.int .i64 kind,strV key,strV val]] w (fun e w'=>e=.returned (.bool true)/\Both w0 w' B tb lo mb (k+1) (after es kind key val)/\Mod (mb :: tall tb B) w w'/\(kind=3->Both w0 w' B tb lo mb k es)):=by
 have b1:=Pool.below_box w (.cells #[.int .i64 kind,strV key,strV val] 32);have a1:=at_new w #[.int .i64 kind,strV key,strV val] 32;obtain ⟨W1,hW1⟩:∃ W1,w.alloc (.cells #[.int .i64 kind,strV key,strV val] 32)=W1:=⟨_,rfl⟩;rw [hW1] at b1 a1;have B1:=hid b1;have A1:=hid a1;have H1:=hid (H.quiet b1);have OFF:=hid (show ∀ x∈mb :: tall tb B,x<w.heap.size from fun x hx=>by
  rcases List.mem_cons.1 hx with rfl | hx
  ·obtain ⟨A,c,hA,-⟩:=H.map.row;exact hA.1
  ·rcases Nat.lt_or_ge x w.heap.size with g | g
   ·exact g
   ·exact absurd hx (H.hand.tall g))
 have SUB1:=hid (show ∀ x∈tall tb B,x∈mb :: tall tb B from fun x hx=>List.mem_cons_of_mem _ hx);have SUB2:=hid (show ∀ x∈[mb],x∈mb :: tall tb B from fun x hx=>by rw [List.mem_singleton] at hx;rw [hx];exact List.mem_cons_self ..);have KB:=hid (show ∀ W,Mod (mb :: tall tb B) W1 W->W.cell? ⟨w.heap.size,0,none⟩=some (.int .i64 kind)/\W.cell? ⟨w.heap.size,1,none⟩=some (strV key)/\W.cell? ⟨w.heap.size,2,none⟩=some (strV val) from fun W m=>by
  have:=at_mod A1.out m (fun e=>by have:=OFF.out _ e;omega);exact ⟨this.2.2 0 _ rfl,this.2.2 1 _ rfl,this.2.2 2 _ rfl⟩)
 have MB:=hid (show ∀ W,Mod (mb :: tall tb B) W1 W->Mod (mb :: tall tb B) w W from fun W m=>(Mod.of_below _ B1.out).trans m);obtain ⟨c0,c1,c2⟩:=KB.out W1 (Mod.refl _ _);obtain ⟨wb,hwb⟩:∃ wb,w.heap.size=wb:=⟨_,rfl⟩;rw [hwb] at c0 c1 c2 KB;have EW:=hid hwb;clear a1 b1 H
 by_cases h1:kind=1
 ·subst h1;have e1:after es 1 key val=if 1<=key.length/\key.length<=48/\val.length<=100 then setP es key val else es:=if_pos rfl
  have D1:=hid ((Mod.refl (mb :: tall tb B) W1).drew)
  by_cases hg:1<=key.length/\key.length<=48/\val.length<=100
  ·rw [if_pos hg] at e1;rw [e1];have HX:=hid (H1.out.quiet (Below.refl _ _).drew);have cS:=set_run HX.out.hand hk key val hg.1 hg.2.1 hg.2.2;have cM:=hid (fun W (h:MapOn W lo mb es)=>mset_any h HX.out.hand.sorted key val hg.1 hg.2.1 hg.2.2 (by have:=HX.out.hand.few;omega));have K0:=hid (And.intro (KB.out _ D1.out).2.1 (KB.out _ D1.out).2.2);obtain ⟨kv,hkv⟩:∃ kv,strV key=kv:=⟨_,rfl⟩;obtain ⟨vv,hvv⟩:∃ vv,strV val=vv:=⟨_,rfl⟩
   rw [hkv] at cS cM K0 KB c1 hW1 ⊢;rw [hvv] at cS cM K0 KB c2 hW1 ⊢;clear hkv hvv A1 hg e1;go_enter Tryz.func14,Tryz.ntmps14
   go_wp2_with fail
   go_region_held3 (fun w'=>w'.cell? ⟨wb,1,none⟩=some kv/\w'.cell? ⟨wb,2,none⟩=some vv)
    (with_reducible (first | exact K0.out | exact K1.out | exact K2.out))
    (first
      | (go_at_call 24;(with_reducible refine cS.mono ?_);rintro e w2 ⟨rfl,h2,m2⟩
         have M2:=hid (D1.out.trans (m2.mono SUB1.out));have K1:=hid (And.intro (KB.out _ M2.out).2.1 (KB.out _ M2.out).2.2);have HH:=hid h2;have cT:=cM.out w2 (HX.out.map.mod m2 HX.out.low);clear h2 m2 cS cM)
      | (go_at_call 25;(with_reducible refine cT.mono ?_);rintro e w3 ⟨rfl,h3,m3⟩
         have M3:=hid (M2.out.trans (m3.mono SUB2.out));have K2:=hid (And.intro (KB.out _ M3.out).2.1 (KB.out _ M3.out).2.2);have FIN:=hid (HX.out.step HH.out h3 m3);clear h3 m3 cT))
   all_goals
    go_wp2_with fail
    go_ret
    exact ⟨rfl,FIN.out,MB.out _ M3.out,fun e=>absurd e (by decide)⟩
  ·rw [if_neg hg] at e1;rw [e1];have hb:key.length<1\/48<key.length\/100<val.length:=by omega
   have HX:=hid (H1.out.quiet (Below.refl _ _).drew);have cS:=set_bad (w:=W1.drew) (tb:=tb) key val hb;have cM:=hid (fun W=>mset_bad mb key val hb W);have K0:=hid (And.intro (KB.out _ D1.out).2.1 (KB.out _ D1.out).2.2);obtain ⟨kv,hkv⟩:∃ kv,strV key=kv:=⟨_,rfl⟩;obtain ⟨vv,hvv⟩:∃ vv,strV val=vv:=⟨_,rfl⟩;rw [hkv] at cS cM K0 KB c1 hW1 ⊢;rw [hvv] at cS cM K0 KB c2 hW1 ⊢;clear hkv hvv A1 hg e1 hb;go_enter Tryz.func14,Tryz.ntmps14
   go_wp2_with fail
   go_region_held3 (fun w'=>w'.cell? ⟨wb,1,none⟩=some kv/\w'.cell? ⟨wb,2,none⟩=some vv)
    (with_reducible (first | exact K0.out | exact K1.out | exact K2.out))
    (first
      | (go_at_call 24;(with_reducible refine cS.mono ?_);rintro e w2 ⟨rfl,b2⟩
         have M2:=hid (D1.out.trans (Mod.of_below _ b2));have K1:=hid (And.intro (KB.out _ M2.out).2.1 (KB.out _ M2.out).2.2);have FIN:=hid ((HX.out.quiet b2).more (Nat.le_succ k));have cT:=cM.out w2;clear b2 cS cM)
      | (go_at_call 25;(with_reducible refine cT.mono ?_);rintro e w3 ⟨rfl,rfl⟩
         have K2:=hid K1.out;clear cT))
   all_goals
    go_wp2_with fail
    go_ret
    exact ⟨rfl,FIN.out,MB.out _ M2.out,fun e=>absurd e (by decide)⟩
 by_cases h2:kind=2
 ·subst h2;have e1:after es 2 key val=cutP es key:=by unfold after;rw [if_neg (by decide),if_pos rfl]
  rw [e1];have cS:=cut_run H1.out.hand hk key;have cM:=hid (fun W (h:MapOn W lo mb es)=>mcut_any h key (by have:=H1.out.hand.few;omega));obtain ⟨hb,hhb⟩:∃ b,hasOf (keysOf es) key=b:=⟨_,rfl⟩;rw [hhb] at cS cM;have hbb:(hb==hb)=true:=by simp
  obtain ⟨kv,hkv⟩:∃ kv,strV key=kv:=⟨_,rfl⟩;obtain ⟨vv,hvv⟩:∃ vv,strV val=vv:=⟨_,rfl⟩;rw [hkv] at cS cM KB c1 hW1 ⊢;rw [hvv] at KB c2 hW1 ⊢;clear hkv hvv A1 e1 hhb;go_enter Tryz.func14,Tryz.ntmps14
  go_wp2_with fail
  refine cS.mono ?_;rintro e w2 ⟨rfl,h2,m2⟩;have M2:=hid (m2.mono SUB1.out);have HH:=hid h2;have cT:=cM.out w2 (H1.out.map.mod m2 H1.out.low);obtain ⟨-,c1,-⟩:=KB.out _ M2.out;clear h2 m2 cS cM c0 c2;go_wp2_with fail
  refine cT.mono ?_;rintro e w3 ⟨rfl,h3,m3⟩;have M3:=hid (M2.out.trans (m3.mono SUB2.out));have FIN:=hid (H1.out.step HH.out h3 m3);clear h3 m3 cT c1;go_wp2_with fail
  go_ret
  exact ⟨rfl,FIN.out,MB.out _ M3.out,fun e=>absurd e (by decide)⟩
 have e1:after es kind key val=es:=by unfold after;rw [if_neg h1,if_neg h2]
 rw [e1];have d1:(kind==1)=false:=beq_eq_false_iff_ne.2 h1;have d2:(kind==2)=false:=beq_eq_false_iff_ne.2 h2
 by_cases h3:kind=3
 ·subst h3;clear d1 d2;have cS:=get_run H1.out.hand hk key;have cM:=hid (fun W (h:MapOn W lo mb es)=>mget_any h key (by have:=H1.out.hand.few;omega));obtain ⟨hb,hhb⟩:∃ b,hasOf (keysOf es) key=b:=⟨_,rfl⟩;obtain ⟨V,hV⟩:∃ V,valOf es key=V:=⟨_,rfl⟩;rw [hhb,hV] at cS cM;have hbb:(hb==hb)=true:=by simp
  obtain ⟨Z,hZ⟩:∃ Z,strB V=Z:=⟨_,rfl⟩;rw [show strV V=.string Z by rw [<- hZ]] at cS cM;have hzz:(Z.toList==Z.toList)=true:=by simp
  obtain ⟨kv,hkv⟩:∃ kv,strV key=kv:=⟨_,rfl⟩;obtain ⟨vv,hvv⟩:∃ vv,strV val=vv:=⟨_,rfl⟩;rw [hkv] at cS cM KB c1 hW1 ⊢;rw [hvv] at KB c2 hW1 ⊢;clear hkv hvv A1 e1 hhb hV hZ h1 h2;go_enter Tryz.func14,Tryz.ntmps14
  go_wp2_with fail
  refine cS.mono ?_;rintro e w2 ⟨rfl,b2⟩;have M2:=hid (Mod.of_below (mb :: tall tb B) b2);have H2:=hid (H1.out.quiet b2);have cT:=cM.out w2 H2.out.map;obtain ⟨-,c1,-⟩:=KB.out _ M2.out;clear b2 cS cM c0 c2;go_wp2_with fail
  refine cT.mono ?_;rintro e w3 ⟨rfl,b3⟩;have M3:=hid (M2.out.trans (Mod.of_below (mb :: tall tb B) b3));have FIN:=hid (H2.out.quiet b3);clear b3 cT c1;go_wp2_with fail
  go_ret
  exact ⟨rfl,FIN.out.more (Nat.le_succ k),MB.out _ M3.out,fun _=>FIN.out⟩
 have d3:(kind==3)=false:=beq_eq_false_iff_ne.2 h3
 by_cases h4:kind=4
 ·subst h4;clear d1 d2 d3;have cS:=keep_run H1.out.hand hk;obtain ⟨kv,hkv⟩:∃ kv,strV key=kv:=⟨_,rfl⟩;obtain ⟨vv,hvv⟩:∃ vv,strV val=vv:=⟨_,rfl⟩;rw [hkv] at KB c1 hW1 ⊢;rw [hvv] at KB c2 hW1 ⊢;clear hkv hvv A1 e1 h1 h2 h3;go_enter Tryz.func14,Tryz.ntmps14
  go_wp2_with fail
  refine cS.mono ?_;rintro e w2 ⟨rfl,h2,m2⟩;have M2:=hid (m2.mono SUB1.out);have FIN:=hid (H1.out.tree h2.hand m2);clear h2 m2 cS c0 c1 c2;go_wp2_with fail
  go_ret
  exact ⟨rfl,FIN.out,MB.out _ M2.out,fun e=>absurd e (by decide)⟩
 have d4:(kind==4)=false:=beq_eq_false_iff_ne.2 h4;obtain ⟨kv,hkv⟩:∃ kv,strV key=kv:=⟨_,rfl⟩;obtain ⟨vv,hvv⟩:∃ vv,strV val=vv:=⟨_,rfl⟩;rw [hkv] at KB c1 hW1 ⊢;rw [hvv] at KB c2 hW1 ⊢;have FIN:=hid (H1.out.more (Nat.le_succ k));have N3:=hid h3;clear hkv hvv A1 e1 h1 h2 h3 h4;go_enter Tryz.func14,Tryz.ntmps14
 go_wp2_with fail
 go_ret
 exact ⟨rfl,FIN.out,MB.out _ (Mod.refl _ _),fun e=>absurd e N3.out⟩
end Go.Proofs.YtbhfammnffecoaaGreat.Tree
