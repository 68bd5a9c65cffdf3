import Derived.Test.YtglejnkoojpelaaGreatMT8
import Derived.Test.YtglejnkoojpelaaGreatMA1
import Derived.Test.YtglejnkoojpelaaGreatMT7
import Derived.Test.YtglejnkoojpelaaGreatMT2
import Derived.Test.YtglejnkoojpelaaGreatMT6
import Derived.Test.YtglejnkoojpelaaGreatMT3
set_option maxRecDepth 100000
set_option maxHeartbeats 32000000
namespace Go.Proofs.YtglejnkoojpelaaGreat.Tree
open Go.RowKit Gen
open Disk (St Dev Mod ptr)
open Page (Pg Lay PgOk g0c pgC pgV Enc g0v BytesAt strV strB PRow SRow IRow less)
open Pool (Po NAt PoAt La poC poV numV At g0k g1g g1k g2m g0g OwnI chunks layAll May)
open Store
open Lib (hid)
theorem h8o {w:World} {p q:Pg} {y z:Lay} {n m:Nat} (hk:p.kind=2) (hr:g0c w p y) (hq:g0c w q z) (hn:Page.New p y n) (hm:Page.New q z m) (hl:p.keys.length+q.keys.length<=5000/\p.kids.length+q.kids.length<=5000) (key:Disk.Bs) :
 Calls Tryz.prog 228 #[pgV p y,strV key,pgV q z] w (fun e w'=>∃ yy,e=.returned (pgV (g0f (p.keys++[key]++q.keys) (p.kids++q.kids)) yy)/\g0c w' (g0f (p.keys++[key]++q.keys) (p.kids++q.kids)) yy/\Page.New (g0f (p.keys++[key]++q.keys) (p.kids++q.kids)) yy w.heap.size/\Below w.heap.size w w'):=by
 have b1:=Pool.g0a w (.cells (pgC p y) 103);have a1:=at_new w (pgC p y) 103;obtain ⟨W1,hW1⟩:∃ W1,w.alloc (.cells (pgC p y) 103)=W1:=⟨_,rfl⟩;rw [hW1] at b1 a1;have b2:=Pool.g0a W1 (.cells (pgC q z) 103);have a2:=at_new W1 (pgC q z) 103;obtain ⟨W2,hW2⟩:∃ W2,W1.alloc (.cells (pgC q z) 103)=W2:=⟨_,rfl⟩;rw [hW2] at b2 a2;have b3:=Pool.g0a W2 (.cells pgZ 103);have a3:=at_new W2 pgZ 103
 have a1':=(a1.below b2 a1.1).below b3 (a1.below b2 a1.1).1;have a2':=a2.below b3 a2.1;obtain ⟨W3,hW3⟩:∃ W3,W2.alloc (.cells pgZ 103)=W3:=⟨_,rfl⟩;rw [hW3] at b3 a1' a2' a3;have B3:=hid (b1.trans ((b2.trans (b3.mono b2.size)).mono b1.size));have k0:W3.cell? ⟨w.heap.size,0,none⟩=some (.int .i64 2):=by rw [<- hk];exact a1'.2.2 0 _ rfl
 have HS:=hid (show ∀ V,Below W3.heap.size W3 V->V.cell? ⟨w.heap.size,2,none⟩=some (.slice y.A2 p.keys.length y.c2)/\V.cell? ⟨w.heap.size,3,none⟩=some (.slice y.A3 p.kids.length y.c3)/\V.cell? ⟨W1.heap.size,2,none⟩=some (.slice z.A2 q.keys.length z.c2)/\V.cell? ⟨W1.heap.size,3,none⟩=some (.slice z.A3 q.kids.length z.c3) from fun V hb=>⟨(a1'.below hb a1'.1).2.2 2 _ rfl,(a1'.below hb a1'.1).2.2 3 _ rfl,(a2'.below hb a2'.1).2.2 2 _ rfl,(a2'.below hb a2'.1).2.2 3 _ rfl⟩)
 have RP:=hid (show ∀ V,Below W3.heap.size W3 V->TreeS.SPok V ⟨y.A2,p.keys.length,y.c2,p.keys⟩/\TreeS.SPok V ⟨z.A2,q.keys.length,z.c2,q.keys⟩/\TreeI.IPok V ⟨y.A3,p.kids.length,y.c3,p.kids⟩/\TreeI.IPok V ⟨z.A3,q.kids.length,z.c3,q.kids⟩ from fun V hb=>by
  have hb':=B3.out.trans (hb.mono B3.out.size);exact ⟨⟨rfl,hn.z2,(hr.below hb').r2⟩,⟨rfl,hm.z2,(hq.below hb').r2⟩,⟨rfl,hn.z3,(hr.below hb').r3⟩,⟨rfl,hm.z3,(hq.below hb').r3⟩⟩)
 have AZ:=hid a3;have HL:=hid hl;have NW:=hid (show w.heap.size<=W2.heap.size/\W2.heap.size<W3.heap.size from ⟨(b1.trans (b2.mono b1.size)).size,a3.1⟩);have NQ:=hid (show w.heap.size∉[W2.heap.size]/\W1.heap.size∉[W2.heap.size] from ⟨by have:=a1.1;have:=b2.size;simp;omega,by have:=a2.1;simp;omega⟩);obtain ⟨C1,hC1⟩:∃ C,pgC p y=C:=⟨_,rfl⟩;obtain ⟨C2,hC2⟩:∃ C,pgC q z=C:=⟨_,rfl⟩;rw [show pgV p y=.agg C1 from congrArg Value.agg hC1,show pgV q z=.agg C2 from congrArg Value.agg hC2]
 rw [hC1] at hW1;rw [hC2] at hW2;obtain ⟨kb',hks⟩:∃ ks,strB key=ks:=⟨_,rfl⟩;have HKS:=hid hks;rw [show strV key=.string kb' by rw [<- hks]];have hW3':W2.alloc (.cells #[.int .i64 0,.slice none 0 0,.slice none 0 0,.slice none 0 0,.slice none 0 0,.int .i64 0,.int .u64 0,.int .i64 0,.int .i64 0,.int .i64 0,.int .i64 0] 103)=W3:=hW3;have hkf:((2:Int)==1)=false:=by decide
 have BD:=hid (show Below W3.heap.size W3 W3.drew from (Below.refl _ _).drew);clear a1 a2 a1' a2' a3 b1 b2 b3 hr hq hn hm hk hl hC1 hC2 hks hW3;go_enter Tryz.func228,Tryz.ntmps228
 go_wp2_with (first | ((with_reducible refine Disk.g0w rfl 103 (.tmp 0) rfl C1 ?_ ?_);(next=>rfl)) | ((with_reducible refine Disk.g0w rfl 103 (.tmp 2) rfl C2 ?_ ?_);(next=>rfl)))
 clear hW1 hW2 hW3';refine wp_region_held (S:=fun V=>V.cell? ⟨w.heap.size,2,none⟩=some (.slice y.A2 p.keys.length y.c2)/\V.cell? ⟨w.heap.size,3,none⟩=some (.slice y.A3 p.kids.length y.c3)/\V.cell? ⟨W1.heap.size,2,none⟩=some (.slice z.A2 q.keys.length z.c2)/\V.cell? ⟨W1.heap.size,3,none⟩=some (.slice z.A3 q.kids.length z.c3)) (by kernel_rfl) ?_;change wpAnyH _ _ _ _ _ _ _ _ W3.drew;have e0:=BD.out;obtain ⟨V0,hV0⟩:∃ V0,W3.drew=V0:=⟨_,rfl⟩
 rw [hV0] at e0 ⊢;clear hV0 BD;have hSR:=HS.out _ e0;refine Gen.tk 0 hSR ?_;simp only [Act.put];refine Gen.tk 1 hSR ?_;simp only [Act.put];refine Gen.tk 2 hSR ?_;simp only [Act.put];refine Gen.tk 4 hSR ?_;simp only [Act.put];refine Gen.tk 5 hSR ?_;simp only [Act.put];refine Gen.tk 8 hSR ?_;simp only [Act.put];refine Gen.tk 9 hSR ?_;simp only [Act.put];refine Gen.tk 10 hSR ?_;simp only [Act.put];refine Gen.tk 11 hSR ?_
 simp only [Act.put];refine wpAnyH_ready (rs:=[3,12]) (by kernel_rfl) (by simp) (AllReadyH.cons rfl (fun K hK=>?_) (AllReadyH.cons rfl (fun K hK=>?_) AllReadyH.nil))
 ·go_simp
  have f1:=Pool.g0a V0 (.cells #[.string kb'] 9);have g1:=at_new V0 #[.string kb'] 9;have e1:=e0.trans (f1.mono e0.size);refine hK.out _ _ (HS.out _ e1) (fun hSR=>?_);clear hK K;obtain ⟨V1,hV1⟩:∃ V,V0.alloc (.cells #[.string kb'] 9)=V:=⟨_,rfl⟩;rw [hV1] at f1 g1 e1 hSR ⊢;clear hV1;refine wpAnyH_ready (rs:=[6,12]) (by kernel_rfl) (by simp) (AllReadyH.cons rfl (fun K hK=>?_) (AllReadyH.cons rfl (fun K hK=>?_) AllReadyH.nil))
  ·go_simp
   have f2:=Pool.g0a V1 (.cells #[.slice y.A2 p.keys.length y.c2,.slice (some ⟨V0.heap.size,0,none⟩) 1 1,.slice z.A2 q.keys.length z.c2] 64);have g2:=at_new V1 #[.slice y.A2 p.keys.length y.c2,.slice (some ⟨V0.heap.size,0,none⟩) 1 1,.slice z.A2 q.keys.length z.c2] 64;have hK2:=g1.below f2 g1.1;have e2:=e1.trans (f2.mono e1.size);refine hK.out _ _ (HS.out _ e2) (fun hSR=>?_);clear hK K;obtain ⟨V2,hV2⟩:∃ V,V1.alloc (.cells #[.slice y.A2 p.keys.length y.c2,.slice (some ⟨V0.heap.size,0,none⟩) 1 1,.slice z.A2 q.keys.length z.c2] 64)=V:=⟨_,rfl⟩
   rw [hV2] at f2 g2 e2 hSR hK2 ⊢;clear hV2;refine wpAnyH_ready (rs:=[7,12]) (by kernel_rfl) (by simp) (AllReadyH.cons rfl (fun K hK=>?_) (AllReadyH.cons rfl (fun K hK=>?_) AllReadyH.nil))
   ·go_simp
    have c3:=j3u V2 g2 (RP.out _ e2).1 (l2:=[key]) ⟨rfl,fun e=>(by cases e),fun _=>⟨V0.heap.size,0,rfl,hK2.1,fun k hk=>(by obtain rfl:k=0:=(by simpa using hk);rw [show strV [key][0]=.string kb' from by rw [<- HKS.out];rfl];exact hK2.2.2 0 _ rfl)⟩⟩ (RP.out _ e2).2.1 (by have:=HL.out;omega);refine c3.mono ?_;rintro e V3 ⟨v3,rfl,o3,f3⟩;clear c3;have hK3:=hK2.below f3 hK2.1;have hC33:=g2.below f3 g2.1
    have o3':=g1v o3 e2.size;have e3:=e2.trans (f3.mono e2.size);refine hK.out _ _ (HS.out _ e3) (fun hSR=>?_);clear hK K;refine wpAnyH_ready (rs:=[12]) (by kernel_rfl) (by simp) (AllReadyH.cons rfl (fun K hK=>?_) AllReadyH.nil);go_simp
    have f4:=Pool.g0a V3 (.cells #[.slice y.A3 p.kids.length y.c3,.slice z.A3 q.kids.length z.c3] 66);have g4:=at_new V3 #[.slice y.A3 p.kids.length y.c3,.slice z.A3 q.kids.length z.c3] 66;have hK4:=hK3.below f4 hK3.1;have hC34:=hC33.below f4 hC33.1;have hOS4:=OwnG.kept o3' f4;have e4:=e3.trans (f4.mono e3.size);refine hK.out _ _ (HS.out _ e4) (fun hSR=>?_);clear hK K;obtain ⟨V4,hV4⟩:∃ V,V3.alloc (.cells #[.slice y.A3 p.kids.length y.c3,.slice z.A3 q.kids.length z.c3] 66)=V:=⟨_,rfl⟩
    rw [hV4] at f4 g4 e4 hSR hK4 hC34 hOS4 ⊢;clear hV4;refine wpAnyH_ready (rs:=[13]) (by kernel_rfl) (by simp) (AllReadyH.cons rfl (fun K hK=>?_) AllReadyH.nil);go_simp
    have c5:=k6b V4 g4 (RP.out _ e4).2.2.1 (RP.out _ e4).2.2.2 (by have:=HL.out;omega);refine c5.mono ?_;rintro e V5 ⟨v5,rfl,o5,f5⟩;clear c5;have hK5:=hK4.below f5 hK4.1;have hC35:=hC34.below f5 hC34.1;have hC25:=g4.below f5 g4.1;have hOS5:=OwnG.kept hOS4 f5;have o5':=g1v o5 e4.size;have e5:=e4.trans (f5.mono e4.size);refine hK.out _ _ (HS.out _ e5) (fun hSR=>?_);clear hK K;obtain ⟨yy,ek,en,ep,rs,rv,pr,pn,bb,mb⟩:=g9h (w:=w) (AZ.out.below e5 AZ.out.1) rfl (B3.out.trans (e5.mono B3.out.size)) hOS5 o5' NW.out.1 NW.out.2
    subst ek en;obtain ⟨Vz,hVz⟩:∃ Vz,V5.setCells W2.heap.size 0 (pgC (g0f (p.keys++[key]++q.keys) (p.kids++q.kids)) yy).toList=Vz:=⟨_,rfl⟩;rw [hVz] at rs rv pr bb mb;clear hVz;obtain ⟨na,hna⟩:∃ na,(p.keys++[key]++q.keys).length=na:=⟨_,rfl⟩;obtain ⟨nb,hnb⟩:∃ nb,(p.kids++q.kids).length=nb:=⟨_,rfl⟩;rw [hna,hnb] at ep ⊢;rw [ep] at rs;have SN:=hid (show Vz.cell? ⟨w.heap.size,2,none⟩=some (.slice y.A2 p.keys.length y.c2)/\Vz.cell? ⟨w.heap.size,3,none⟩=some (.slice y.A3 p.kids.length y.c3)/\Vz.cell? ⟨W1.heap.size,2,none⟩=some (.slice z.A2 q.keys.length z.c2)/\Vz.cell? ⟨W1.heap.size,3,none⟩=some (.slice z.A3 q.kids.length z.c3) from by
     obtain ⟨s1,s2,s3,s4⟩:=hSR;exact ⟨(mb.cell (p:=⟨w.heap.size,2,none⟩) (World.block_lt_of_cell? _ _ s1) NQ.out.1).trans s1,(mb.cell (p:=⟨w.heap.size,3,none⟩) (World.block_lt_of_cell? _ _ s2) NQ.out.1).trans s2,(mb.cell (p:=⟨W1.heap.size,2,none⟩) (World.block_lt_of_cell? _ _ s3) NQ.out.2).trans s3,(mb.cell (p:=⟨W1.heap.size,3,none⟩) (World.block_lt_of_cell? _ _ s4) NQ.out.2).trans s4⟩)
    have RS:=hid rs;have RV:=hid rv;have FIN:=hid (show g0c _ _ yy/\Page.New _ yy w.heap.size/\Below _ _ _ from ⟨pr,pn.mono (Nat.le_trans NW.out.1 (Nat.le_of_lt NW.out.2)),bb⟩);clear ep rs rv pr pn bb mb hna hnb;refine Gen.tk 14 hSR ?_
    (try simp only [List.getElem_toArray]);(try simp only [List.getElem_cons_succ]);(try simp only [List.getElem_cons_zero]);(try simp only [Act.put]);(try simp only [List.setIfInBounds_toArray]);(try simp only [List.set_cons_succ]);(try simp only [List.set_cons_zero])
    refine wpAnyH_ready (rs:=[15]) (by kernel_rfl) (by simp) (AllReadyH.cons rfl (fun K hK=>?_) AllReadyH.nil);refine g1p (by rfl) 103 (.tmp 6) (.tmp 31) (by rfl) (by rfl) (by rfl) RS.out ?_;refine hK.out _ _ SN.out (fun hSR=>?_);clear hK K;simp only [Act.put];refine wpAnyH_done (by kernel_rfl) ?_ _;clear hSR RS SN;go_wp2_with fail
    refine bodyPost_ret (g4o rfl rfl RV.out) rfl ?_;exact ⟨yy,rfl,FIN.out⟩
   ·go_simp
    have f7:=Pool.g0a V2 (.cells #[.slice y.A3 p.kids.length y.c3,.slice z.A3 q.kids.length z.c3] 66);have g7:=at_new V2 #[.slice y.A3 p.kids.length y.c3,.slice z.A3 q.kids.length z.c3] 66;have hK7:=hK2.below f7 hK2.1;have hC37:=g2.below f7 g2.1;have e7:=e2.trans (f7.mono e2.size);refine hK.out _ _ (HS.out _ e7) (fun hSR=>?_);clear hK K;obtain ⟨V7,hV7⟩:∃ V,V2.alloc (.cells #[.slice y.A3 p.kids.length y.c3,.slice z.A3 q.kids.length z.c3] 66)=V:=⟨_,rfl⟩
    rw [hV7] at f7 g7 e7 hSR hK7 hC37 ⊢;clear hV7;refine wpAnyH_ready (rs:=[7]) (by kernel_rfl) (by simp) (AllReadyH.cons rfl (fun K hK=>?_) AllReadyH.nil);go_simp
    have c8:=j3u V7 hC37 (RP.out _ e7).1 (l2:=[key]) ⟨rfl,fun e=>(by cases e),fun _=>⟨V0.heap.size,0,rfl,hK7.1,fun k hk=>(by obtain rfl:k=0:=(by simpa using hk);rw [show strV [key][0]=.string kb' from by rw [<- HKS.out];rfl];exact hK7.2.2 0 _ rfl)⟩⟩ (RP.out _ e7).2.1 (by have:=HL.out;omega);refine c8.mono ?_;rintro e V8 ⟨v8,rfl,o8,f8⟩;clear c8;have hK8:=hK7.below f8 hK7.1;have hC38:=hC37.below f8 hC37.1
    have hC28:=g7.below f8 g7.1;have o8':=g1v o8 e7.size;have e8:=e7.trans (f8.mono e7.size);refine hK.out _ _ (HS.out _ e8) (fun hSR=>?_);clear hK K;refine wpAnyH_ready (rs:=[13]) (by kernel_rfl) (by simp) (AllReadyH.cons rfl (fun K hK=>?_) AllReadyH.nil);go_simp
    have c9:=k6b V8 hC28 (RP.out _ e8).2.2.1 (RP.out _ e8).2.2.2 (by have:=HL.out;omega);refine c9.mono ?_;rintro e V9 ⟨v9,rfl,o9,f9⟩;clear c9;have hK9:=hK8.below f9 hK8.1;have hC39:=hC38.below f9 hC38.1;have hC29:=hC28.below f9 hC28.1;have hOS9:=OwnG.kept o8' f9;have o9':=g1v o9 e8.size;have e9:=e8.trans (f9.mono e8.size);refine hK.out _ _ (HS.out _ e9) (fun hSR=>?_);clear hK K;obtain ⟨yy,ek,en,ep,rs,rv,pr,pn,bb,mb⟩:=g9h (w:=w) (AZ.out.below e9 AZ.out.1) rfl (B3.out.trans (e9.mono B3.out.size)) hOS9 o9' NW.out.1 NW.out.2
    subst ek en;obtain ⟨Vz,hVz⟩:∃ Vz,V9.setCells W2.heap.size 0 (pgC (g0f (p.keys++[key]++q.keys) (p.kids++q.kids)) yy).toList=Vz:=⟨_,rfl⟩;rw [hVz] at rs rv pr bb mb;clear hVz;obtain ⟨na,hna⟩:∃ na,(p.keys++[key]++q.keys).length=na:=⟨_,rfl⟩;obtain ⟨nb,hnb⟩:∃ nb,(p.kids++q.kids).length=nb:=⟨_,rfl⟩;rw [hna,hnb] at ep ⊢;rw [ep] at rs;have SN:=hid (show Vz.cell? ⟨w.heap.size,2,none⟩=some (.slice y.A2 p.keys.length y.c2)/\Vz.cell? ⟨w.heap.size,3,none⟩=some (.slice y.A3 p.kids.length y.c3)/\Vz.cell? ⟨W1.heap.size,2,none⟩=some (.slice z.A2 q.keys.length z.c2)/\Vz.cell? ⟨W1.heap.size,3,none⟩=some (.slice z.A3 q.kids.length z.c3) from by
     obtain ⟨s1,s2,s3,s4⟩:=hSR;exact ⟨(mb.cell (p:=⟨w.heap.size,2,none⟩) (World.block_lt_of_cell? _ _ s1) NQ.out.1).trans s1,(mb.cell (p:=⟨w.heap.size,3,none⟩) (World.block_lt_of_cell? _ _ s2) NQ.out.1).trans s2,(mb.cell (p:=⟨W1.heap.size,2,none⟩) (World.block_lt_of_cell? _ _ s3) NQ.out.2).trans s3,(mb.cell (p:=⟨W1.heap.size,3,none⟩) (World.block_lt_of_cell? _ _ s4) NQ.out.2).trans s4⟩)
    have RS:=hid rs;have RV:=hid rv;have FIN:=hid (show g0c _ _ yy/\Page.New _ yy w.heap.size/\Below _ _ _ from ⟨pr,pn.mono (Nat.le_trans NW.out.1 (Nat.le_of_lt NW.out.2)),bb⟩);clear ep rs rv pr pn bb mb hna hnb;refine Gen.tk 14 hSR ?_
    (try simp only [List.getElem_toArray]);(try simp only [List.getElem_cons_succ]);(try simp only [List.getElem_cons_zero]);(try simp only [Act.put]);(try simp only [List.setIfInBounds_toArray]);(try simp only [List.set_cons_succ]);(try simp only [List.set_cons_zero])
    refine wpAnyH_ready (rs:=[15]) (by kernel_rfl) (by simp) (AllReadyH.cons rfl (fun K hK=>?_) AllReadyH.nil);refine g1p (by rfl) 103 (.tmp 6) (.tmp 31) (by rfl) (by rfl) (by rfl) RS.out ?_;refine hK.out _ _ SN.out (fun hSR=>?_);clear hK K;simp only [Act.put];refine wpAnyH_done (by kernel_rfl) ?_ _;clear hSR RS SN;go_wp2_with fail
    refine bodyPost_ret (g4o rfl rfl RV.out) rfl ?_;exact ⟨yy,rfl,FIN.out⟩
  ·go_simp
   have f11:=Pool.g0a V1 (.cells #[.slice y.A3 p.kids.length y.c3,.slice z.A3 q.kids.length z.c3] 66);have g11:=at_new V1 #[.slice y.A3 p.kids.length y.c3,.slice z.A3 q.kids.length z.c3] 66;have hK11:=g1.below f11 g1.1;have e11:=e1.trans (f11.mono e1.size);refine hK.out _ _ (HS.out _ e11) (fun hSR=>?_);clear hK K;obtain ⟨V11,hV11⟩:∃ V,V1.alloc (.cells #[.slice y.A3 p.kids.length y.c3,.slice z.A3 q.kids.length z.c3] 66)=V:=⟨_,rfl⟩
   rw [hV11] at f11 g11 e11 hSR hK11 ⊢;clear hV11;refine wpAnyH_ready (rs:=[6]) (by kernel_rfl) (by simp) (AllReadyH.cons rfl (fun K hK=>?_) AllReadyH.nil);go_simp
   have f12:=Pool.g0a V11 (.cells #[.slice y.A2 p.keys.length y.c2,.slice (some ⟨V0.heap.size,0,none⟩) 1 1,.slice z.A2 q.keys.length z.c2] 64);have g12:=at_new V11 #[.slice y.A2 p.keys.length y.c2,.slice (some ⟨V0.heap.size,0,none⟩) 1 1,.slice z.A2 q.keys.length z.c2] 64;have hK12:=hK11.below f12 hK11.1;have hC212:=g11.below f12 g11.1;have e12:=e11.trans (f12.mono e11.size);refine hK.out _ _ (HS.out _ e12) (fun hSR=>?_)
   clear hK K;obtain ⟨V12,hV12⟩:∃ V,V11.alloc (.cells #[.slice y.A2 p.keys.length y.c2,.slice (some ⟨V0.heap.size,0,none⟩) 1 1,.slice z.A2 q.keys.length z.c2] 64)=V:=⟨_,rfl⟩;rw [hV12] at f12 g12 e12 hSR hK12 hC212 ⊢;clear hV12;refine wpAnyH_ready (rs:=[7]) (by kernel_rfl) (by simp) (AllReadyH.cons rfl (fun K hK=>?_) AllReadyH.nil);go_simp
   have c13:=j3u V12 g12 (RP.out _ e12).1 (l2:=[key]) ⟨rfl,fun e=>(by cases e),fun _=>⟨V0.heap.size,0,rfl,hK12.1,fun k hk=>(by obtain rfl:k=0:=(by simpa using hk);rw [show strV [key][0]=.string kb' from by rw [<- HKS.out];rfl];exact hK12.2.2 0 _ rfl)⟩⟩ (RP.out _ e12).2.1 (by have:=HL.out;omega);refine c13.mono ?_;rintro e V13 ⟨v13,rfl,o13,f13⟩;clear c13;have hK13:=hK12.below f13 hK12.1;have hC213:=hC212.below f13 hC212.1
   have hC313:=g12.below f13 g12.1;have o13':=g1v o13 e12.size;have e13:=e12.trans (f13.mono e12.size);refine hK.out _ _ (HS.out _ e13) (fun hSR=>?_);clear hK K;refine wpAnyH_ready (rs:=[13]) (by kernel_rfl) (by simp) (AllReadyH.cons rfl (fun K hK=>?_) AllReadyH.nil);go_simp
   have c14:=k6b V13 hC213 (RP.out _ e13).2.2.1 (RP.out _ e13).2.2.2 (by have:=HL.out;omega);refine c14.mono ?_;rintro e V14 ⟨v14,rfl,o14,f14⟩;clear c14;have hK14:=hK13.below f14 hK13.1;have hC214:=hC213.below f14 hC213.1;have hC314:=hC313.below f14 hC313.1;have hOS14:=OwnG.kept o13' f14;have o14':=g1v o14 e13.size;have e14:=e13.trans (f14.mono e13.size);refine hK.out _ _ (HS.out _ e14) (fun hSR=>?_)
   clear hK K;obtain ⟨yy,ek,en,ep,rs,rv,pr,pn,bb,mb⟩:=g9h (w:=w) (AZ.out.below e14 AZ.out.1) rfl (B3.out.trans (e14.mono B3.out.size)) hOS14 o14' NW.out.1 NW.out.2;subst ek en;obtain ⟨Vz,hVz⟩:∃ Vz,V14.setCells W2.heap.size 0 (pgC (g0f (p.keys++[key]++q.keys) (p.kids++q.kids)) yy).toList=Vz:=⟨_,rfl⟩;rw [hVz] at rs rv pr bb mb;clear hVz;obtain ⟨na,hna⟩:∃ na,(p.keys++[key]++q.keys).length=na:=⟨_,rfl⟩
   obtain ⟨nb,hnb⟩:∃ nb,(p.kids++q.kids).length=nb:=⟨_,rfl⟩;rw [hna,hnb] at ep ⊢;rw [ep] at rs;have SN:=hid (show Vz.cell? ⟨w.heap.size,2,none⟩=some (.slice y.A2 p.keys.length y.c2)/\Vz.cell? ⟨w.heap.size,3,none⟩=some (.slice y.A3 p.kids.length y.c3)/\Vz.cell? ⟨W1.heap.size,2,none⟩=some (.slice z.A2 q.keys.length z.c2)/\Vz.cell? ⟨W1.heap.size,3,none⟩=some (.slice z.A3 q.kids.length z.c3) from by
    obtain ⟨s1,s2,s3,s4⟩:=hSR;exact ⟨(mb.cell (p:=⟨w.heap.size,2,none⟩) (World.block_lt_of_cell? _ _ s1) NQ.out.1).trans s1,(mb.cell (p:=⟨w.heap.size,3,none⟩) (World.block_lt_of_cell? _ _ s2) NQ.out.1).trans s2,(mb.cell (p:=⟨W1.heap.size,2,none⟩) (World.block_lt_of_cell? _ _ s3) NQ.out.2).trans s3,(mb.cell (p:=⟨W1.heap.size,3,none⟩) (World.block_lt_of_cell? _ _ s4) NQ.out.2).trans s4⟩)
   have RS:=hid rs;have RV:=hid rv;have FIN:=hid (show g0c _ _ yy/\Page.New _ yy w.heap.size/\Below _ _ _ from ⟨pr,pn.mono (Nat.le_trans NW.out.1 (Nat.le_of_lt NW.out.2)),bb⟩);clear ep rs rv pr pn bb mb hna hnb;refine Gen.tk 14 hSR ?_
   (try simp only [List.getElem_toArray]);(try simp only [List.getElem_cons_succ]);(try simp only [List.getElem_cons_zero]);(try simp only [Act.put]);(try simp only [List.setIfInBounds_toArray]);(try simp only [List.set_cons_succ]);(try simp only [List.set_cons_zero])
   refine wpAnyH_ready (rs:=[15]) (by kernel_rfl) (by simp) (AllReadyH.cons rfl (fun K hK=>?_) AllReadyH.nil);refine g1p (by rfl) 103 (.tmp 6) (.tmp 31) (by rfl) (by rfl) (by rfl) RS.out ?_;refine hK.out _ _ SN.out (fun hSR=>?_);clear hK K;simp only [Act.put];refine wpAnyH_done (by kernel_rfl) ?_ _;clear hSR RS SN;go_wp2_with fail
   refine bodyPost_ret (g4o rfl rfl RV.out) rfl ?_;exact ⟨yy,rfl,FIN.out⟩
 ·go_simp
  have f16:=Pool.g0a V0 (.cells #[.slice y.A3 p.kids.length y.c3,.slice z.A3 q.kids.length z.c3] 66);have g16:=at_new V0 #[.slice y.A3 p.kids.length y.c3,.slice z.A3 q.kids.length z.c3] 66;have e16:=e0.trans (f16.mono e0.size);refine hK.out _ _ (HS.out _ e16) (fun hSR=>?_);clear hK K;obtain ⟨V16,hV16⟩:∃ V,V0.alloc (.cells #[.slice y.A3 p.kids.length y.c3,.slice z.A3 q.kids.length z.c3] 66)=V:=⟨_,rfl⟩
  rw [hV16] at f16 g16 e16 hSR ⊢;clear hV16;refine wpAnyH_ready (rs:=[3]) (by kernel_rfl) (by simp) (AllReadyH.cons rfl (fun K hK=>?_) AllReadyH.nil);go_simp
  have f17:=Pool.g0a V16 (.cells #[.string kb'] 9);have g17:=at_new V16 #[.string kb'] 9;have hC217:=g16.below f17 g16.1;have e17:=e16.trans (f17.mono e16.size);refine hK.out _ _ (HS.out _ e17) (fun hSR=>?_);clear hK K;obtain ⟨V17,hV17⟩:∃ V,V16.alloc (.cells #[.string kb'] 9)=V:=⟨_,rfl⟩;rw [hV17] at f17 g17 e17 hSR hC217 ⊢;clear hV17;refine wpAnyH_ready (rs:=[6]) (by kernel_rfl) (by simp) (AllReadyH.cons rfl (fun K hK=>?_) AllReadyH.nil)
  go_simp
  have f18:=Pool.g0a V17 (.cells #[.slice y.A2 p.keys.length y.c2,.slice (some ⟨V16.heap.size,0,none⟩) 1 1,.slice z.A2 q.keys.length z.c2] 64);have g18:=at_new V17 #[.slice y.A2 p.keys.length y.c2,.slice (some ⟨V16.heap.size,0,none⟩) 1 1,.slice z.A2 q.keys.length z.c2] 64;have hC218:=hC217.below f18 hC217.1;have hK18:=g17.below f18 g17.1;have e18:=e17.trans (f18.mono e17.size);refine hK.out _ _ (HS.out _ e18) (fun hSR=>?_)
  clear hK K;obtain ⟨V18,hV18⟩:∃ V,V17.alloc (.cells #[.slice y.A2 p.keys.length y.c2,.slice (some ⟨V16.heap.size,0,none⟩) 1 1,.slice z.A2 q.keys.length z.c2] 64)=V:=⟨_,rfl⟩;rw [hV18] at f18 g18 e18 hSR hC218 hK18 ⊢;clear hV18;refine wpAnyH_ready (rs:=[7]) (by kernel_rfl) (by simp) (AllReadyH.cons rfl (fun K hK=>?_) AllReadyH.nil);go_simp
  have c19:=j3u V18 g18 (RP.out _ e18).1 (l2:=[key]) ⟨rfl,fun e=>(by cases e),fun _=>⟨V16.heap.size,0,rfl,hK18.1,fun k hk=>(by obtain rfl:k=0:=(by simpa using hk);rw [show strV [key][0]=.string kb' from by rw [<- HKS.out];rfl];exact hK18.2.2 0 _ rfl)⟩⟩ (RP.out _ e18).2.1 (by have:=HL.out;omega);refine c19.mono ?_;rintro e V19 ⟨v19,rfl,o19,f19⟩;clear c19;have hC219:=hC218.below f19 hC218.1;have hK19:=hK18.below f19 hK18.1
  have hC319:=g18.below f19 g18.1;have o19':=g1v o19 e18.size;have e19:=e18.trans (f19.mono e18.size);refine hK.out _ _ (HS.out _ e19) (fun hSR=>?_);clear hK K;refine wpAnyH_ready (rs:=[13]) (by kernel_rfl) (by simp) (AllReadyH.cons rfl (fun K hK=>?_) AllReadyH.nil);go_simp
  have c20:=k6b V19 hC219 (RP.out _ e19).2.2.1 (RP.out _ e19).2.2.2 (by have:=HL.out;omega);refine c20.mono ?_;rintro e V20 ⟨v20,rfl,o20,f20⟩;clear c20;have hC220:=hC219.below f20 hC219.1;have hK20:=hK19.below f20 hK19.1;have hC320:=hC319.below f20 hC319.1;have hOS20:=OwnG.kept o19' f20;have o20':=g1v o20 e19.size;have e20:=e19.trans (f20.mono e19.size);refine hK.out _ _ (HS.out _ e20) (fun hSR=>?_)
  clear hK K;obtain ⟨yy,ek,en,ep,rs,rv,pr,pn,bb,mb⟩:=g9h (w:=w) (AZ.out.below e20 AZ.out.1) rfl (B3.out.trans (e20.mono B3.out.size)) hOS20 o20' NW.out.1 NW.out.2;subst ek en;obtain ⟨Vz,hVz⟩:∃ Vz,V20.setCells W2.heap.size 0 (pgC (g0f (p.keys++[key]++q.keys) (p.kids++q.kids)) yy).toList=Vz:=⟨_,rfl⟩;rw [hVz] at rs rv pr bb mb;clear hVz;obtain ⟨na,hna⟩:∃ na,(p.keys++[key]++q.keys).length=na:=⟨_,rfl⟩
  obtain ⟨nb,hnb⟩:∃ nb,(p.kids++q.kids).length=nb:=⟨_,rfl⟩;rw [hna,hnb] at ep ⊢;rw [ep] at rs;have SN:=hid (show Vz.cell? ⟨w.heap.size,2,none⟩=some (.slice y.A2 p.keys.length y.c2)/\Vz.cell? ⟨w.heap.size,3,none⟩=some (.slice y.A3 p.kids.length y.c3)/\Vz.cell? ⟨W1.heap.size,2,none⟩=some (.slice z.A2 q.keys.length z.c2)/\Vz.cell? ⟨W1.heap.size,3,none⟩=some (.slice z.A3 q.kids.length z.c3) from by
   obtain ⟨s1,s2,s3,s4⟩:=hSR;exact ⟨(mb.cell (p:=⟨w.heap.size,2,none⟩) (World.block_lt_of_cell? _ _ s1) NQ.out.1).trans s1,(mb.cell (p:=⟨w.heap.size,3,none⟩) (World.block_lt_of_cell? _ _ s2) NQ.out.1).trans s2,(mb.cell (p:=⟨W1.heap.size,2,none⟩) (World.block_lt_of_cell? _ _ s3) NQ.out.2).trans s3,(mb.cell (p:=⟨W1.heap.size,3,none⟩) (World.block_lt_of_cell? _ _ s4) NQ.out.2).trans s4⟩)
  have RS:=hid rs;have RV:=hid rv;have FIN:=hid (show g0c _ _ yy/\Page.New _ yy w.heap.size/\Below _ _ _ from ⟨pr,pn.mono (Nat.le_trans NW.out.1 (Nat.le_of_lt NW.out.2)),bb⟩);clear ep rs rv pr pn bb mb hna hnb;refine Gen.tk 14 hSR ?_
  (try simp only [List.getElem_toArray]);(try simp only [List.getElem_cons_succ]);(try simp only [List.getElem_cons_zero]);(try simp only [Act.put]);(try simp only [List.setIfInBounds_toArray]);(try simp only [List.set_cons_succ]);(try simp only [List.set_cons_zero])
  refine wpAnyH_ready (rs:=[15]) (by kernel_rfl) (by simp) (AllReadyH.cons rfl (fun K hK=>?_) AllReadyH.nil);refine g1p (by rfl) 103 (.tmp 6) (.tmp 31) (by rfl) (by rfl) (by rfl) RS.out ?_;refine hK.out _ _ SN.out (fun hSR=>?_);clear hK K;simp only [Act.put];refine wpAnyH_done (by kernel_rfl) ?_ _;clear hSR RS SN;go_wp2_with fail
  refine bodyPost_ret (g4o rfl rfl RV.out) rfl ?_;exact ⟨yy,rfl,FIN.out⟩
structure g6j (p:Pg):Prop where
 kind:p.kind=1\/p.kind=2
 len:p.pairs.length<=400/\p.keys.length<=400
 kids:p.kind=2->p.kids.length=p.keys.length+1
 none_:p.kind=1->p.kids=[]
theorem g6j.kl {p:Pg} (h:g6j p):p.kids.length<=401:=by
 rcases h.kind with hk | hk
 ·rw [h.none_ hk];exact Nat.zero_le _
 ·rw [h.kids hk];have:=h.len.2;omega
theorem g6j.wide {p:Pg} {y:Lay} {n:Nat} (h:g6j p) (hn:Page.New p y n):Wide p y :=
 ⟨h.kind,⟨by have:=h.len.1;omega,by have:=h.len.2;omega,by have:=h.kl;omega⟩,h.kids,hn.k1,hn.k2,hn.k3⟩
theorem j8z {w0 w:World} {B:Blk} {tb:Nat} {d:St} {t:T} {r dp c:Int} (h:TrOn w0 w B tb d t r dp c) (n:Int) (hn:I64 n) (N:Int) (hN:0<=N/\N<=1000) (b:Pg) (y:Lay) (hr:g0c w b y) {n1:Nat} (hnw:Page.New b y n1) (hlow:∀ k∈tall tb B,k<n1) (hok:PgOk b) (hT:g6j b) :
 Calls Tryz.prog 185 #[ptr tb,.int .i64 n,.int .i64 N,pgV b y] w (g8h (CRel n N r dp b d t) w0 B tb c w):=by
 have hap:=j4c hnw hlow
 by_cases h0:g0o b=0
 ·refine (j0q h n hn N hN b y hr hap (fun hk e=>by have:=hT.kids hk;rw [e] at this;simp at this) h0).mono ?_;rintro e w' ⟨rfl,m,h1,h2⟩
  by_cases hx:(g1n t n).2=0
  ·exact ⟨d,_,_,_,_,rfl,.inl ⟨h0,rfl,rfl,rfl,.inl ⟨hx,rfl,rfl⟩⟩,h2 hx,m⟩
  ·exact ⟨d,_,r,dp,_,rfl,.inl ⟨h0,rfl,rfl,rfl,.inr ⟨hx,rfl,rfl⟩⟩,h1 hx,m⟩
 ·refine (j2f h n N hN b y h0 (R:=g2n d t b [n]) (fun d' t' ks ns hs=>h6m hs) (fun W g hg hb hc hlt=>?_)).mono ?_
  ·refine h6w (h.quiet hb) b y hok (hr.below hb) (hT.wide hnw) hnw hlow (k1g hc hlt) (fun x e hx=>?_) (fun x hx=>by rw [List.mem_singleton] at hx;rw [hx];exact hn) (by omega);cases e;exact g3r h hg hx
  ·rintro e w' ⟨d',t',r',dp',x,rfl,hR,H,m⟩;exact ⟨d',t',r',dp',x,rfl,.inr ⟨h0,hR⟩,H,m⟩
def g2h (p:Pg) (k:Disk.Bs) (q:Pg):Pg:=if p.kind=1 then g0j (p.pairs++q.pairs) else g0f (p.keys++[k]++q.keys) (p.kids++q.kids)
theorem g1h {w:World} {p q:Pg} {y z:Lay} {n m:Nat} (hp:g6j p) (hq:g6j q) (hr:g0c w p y) (hs:g0c w q z) (hn:Page.New p y n) (hm:Page.New q z m) (key:Disk.Bs) :
 Calls Tryz.prog 228 #[pgV p y,strV key,pgV q z] w (fun e w'=>∃ yy,e=.returned (pgV (g2h p key q) yy)/\g0c w' (g2h p key q) yy/\Page.New (g2h p key q) yy w.heap.size/\Below w.heap.size w w'):=by
 have h1:=hp.len;have h2:=hq.len;have h3:=hp.kl;have h4:=hq.kl;rcases hp.kind with hk | hk
 ·have e:g2h p key q=g0j (p.pairs++q.pairs):=if_pos hk;rw [e];refine (j4v hk hr hs hn hm (by omega) (strV key)).mono ?_;rintro e w' ⟨A,c,rfl,a1,a2,a3⟩;exact ⟨_,rfl,a1,a2,a3⟩
 ·have e:g2h p key q=g0f (p.keys++[key]++q.keys) (p.kids++q.kids):=if_neg (by omega);rw [e];exact h8o hk hr hs hn hm ⟨by omega,by omega⟩ key
theorem k1r {p q:Pg} {k:Disk.Bs} (hp:g6j p) (hq:g6j q):PgOk (g2h p k q):=by
 have h1:=hp.len;have h2:=hq.len;have h3:=hp.kl;have h4:=hq.kl;unfold g2h
 split
 ·exact ⟨⟨by show _<=(1:Int);omega,by show (1:Int)<=_;omega⟩,by show (p.pairs++q.pairs).length<=_;simp;omega,Nat.zero_le _,Nat.zero_le _,Nat.zero_le _,g2e.next,by show 0<18446744073709551616;omega,g2e.root,g2e.depth,g2e.count,g2e.high⟩
 ·exact h5x (by simp;omega) (by simp;omega)
theorem j2e {p q:Pg} {k:Disk.Bs} {y:Lay} {n:Nat} (hp:g6j p) (hq:g6j q) (hkk:q.kind=p.kind) (hn:Page.New (g2h p k q) y n):Wide (g2h p k q) y:=by
 have h1:=hp.len;have h2:=hq.len;have h3:=hp.kl;have h4:=hq.kl;refine ⟨?_,?_,?_,hn.k1,hn.k2,hn.k3⟩ <;> unfold g2h <;> split
 ·exact .inl rfl
 ·exact .inr rfl
 ·exact ⟨by show (p.pairs++q.pairs).length<=_;simp;omega,Nat.zero_le _,Nat.zero_le _⟩
 ·exact ⟨Nat.zero_le _,by show (p.keys++[k]++q.keys).length<=_;simp;omega,by show (p.kids++q.kids).length<=_;simp;omega⟩
 ·exact fun e=>absurd e (show ¬ (1:Int)=2 by decide)
 ·rename_i hk
  intro _;have e1:=hp.kids (by rcases hp.kind with h | h <;> omega);have e2:=hq.kids (by rw [hkk];rcases hp.kind with h | h <;> omega);show (p.kids++q.kids).length=(p.keys++[k]++q.keys).length+1;simp;omega
def p3m (s:Stp) (f l:Nat) (ks:List Disk.Bs) (ns:List Int):Pg:=g0f (s.p.keys.take f++ks++s.p.keys.drop l) (s.p.kids.take f++ns++s.p.kids.drop (l+1))
abbrev noPg:Pg:={kind:=0}
def PutT (s:Stp) (pp:Pg) (f l:Nat) (d:St) (t:T) (d':St) (t':T) (b:Pg) (x:Int):Prop:=∃ ks ns,g2n d t pp ((s.p.kids.take (l+1)).drop f) d' t' ks ns x/\((x≠0/\b=noPg)\/(x=0/\b=p3m s f l ks ns))
def PutR (s:Stp) (p:Pg) (d:St) (t:T) (d':St) (t':T) (b:Pg) (x:Int):Prop :=
 (g0p p<=g0o p/\PutT s p s.kid.toNat s.kid.toNat d t d' t' b x) \/
 (g0o p<g0p p /\
   ((d'=d/\t'=t/\b=noPg/\x=g6y d (s.p.kids[s.kid.toNat-1+(s.kid.toNat-1+1)-s.kid.toNat]?.getD 0)/\(d.readE (s.p.kids[s.kid.toNat-1+(s.kid.toNat-1+1)-s.kid.toNat]?.getD 0)=0->∀ q,g0v (s.p.kids[s.kid.toNat-1+(s.kid.toNat-1+1)-s.kid.toNat]?.getD 0) (d.readB (s.p.kids[s.kid.toNat-1+(s.kid.toNat-1+1)-s.kid.toNat]?.getD 0)) q->q.kind≠p.kind)) \/
    ∃ q,PgAt d (s.p.kids[s.kid.toNat-1+(s.kid.toNat-1+1)-s.kid.toNat]?.getD 0) p.kind q /\
     PutT s (if s.kid.toNat=s.kid.toNat-1 then g2h p (s.p.keys[s.kid.toNat-1]?.getD []) q else g2h q (s.p.keys[s.kid.toNat-1]?.getD []) p) (s.kid.toNat-1) (s.kid.toNat-1+1) d t d' t' b x))
open Page (Pg Lay less Enc g0v Lt g1l)
theorem g5q:∀ {l:List Disk.Bs} (_:g1l Lt l) {i j:Nat} (_:i<j) (hj:j<l.length),less (l[i]'(by omega)) l[j]=true
 | [],_,_,_,_,hj=>by simp at hj
 | a :: r,h,0,j+1,_,hj=>(g7e h).2 j (by simpa using hj)
 | a :: r,h,i+1,j+1,hij,hj=>g5q (g7e h).1 (i:=i) (j:=j) (by omega) (by simpa using hj)
 | a :: r,_,i,0,hij,_=>by omega
theorem h1h {ks:List Disk.Bs} (h:g1l Lt ks) (key:Disk.Bs) (i:Nat) (hi:i<ks.length):i<g0y ks key↔less key ks[i]=false:=by
 have hp:=g7y h key i hi
 constructor
 ·intro g
  by_cases g1:i<g0s ks key
  ·exact h7g (hp.2 g1)
  ·unfold g0y at g
   split at g
   ·rename_i hh
    obtain ⟨h1,h2⟩:=(g5a ks key).1 hh;have e:i=g0s ks key:=by omega
    subst e;rw [h2];exact g2q key
   ·exact absurd g g1
 ·intro g
  by_cases g1:i<g0s ks key
  ·unfold g0y;split <;> omega
  ·have g2:less ks[i] key=false:=by
    rcases Bool.eq_false_or_eq_true (less ks[i] key) with e | e
    ·exact absurd (hp.1 e) g1
    ·exact e
   by_cases e:ks[i]=key
   ·have hm:g2j ks key=true:=(k3u h key).2 (e ▸ List.getElem_mem hi);obtain ⟨h1,h2⟩:=(g5a ks key).1 hm;unfold g0y;rw [if_pos hm];rcases Nat.lt_or_ge (g0s ks key) i with hlt | hge
    ·have:=g5q h hlt hi;rw [h2,e,g2q] at this;exact absurd this (by decide)
    ·omega
   ·have:=h0n g2 e;rw [g] at this;exact absurd this (by decide)
theorem h2y {ks:List Disk.Bs} {L:List Held} (h:g1l Lt ks) (hl:L.length=ks.length+1) (hb:g3q ks L) {key val:Disk.Bs} {j:Nat} {y:Held} (hy:L[j]?=some y) (hm:(key,val)∈y.1):j=g0y ks key:=by
 have hj:j<L.length:=(List.getElem?_eq_some_iff.1 hy).1;have hs:=j3x ks key;rcases Nat.lt_trichotomy j (g0y ks key) with g | g | g
 ·have hi:j<ks.length:=by omega
  have h1:=(hb j hi).1 (key,val) (by rw [hy];exact hm);have h2:=(h1h h key j hi).1 g;have h3:less key ks[j]=true:=h1;rw [h2] at h3;exact absurd h3 (by decide)
 ·exact g
 ·obtain ⟨i,rfl⟩:∃ i,j=i+1:=⟨j-1,by omega⟩;have hi:i<ks.length:=by omega
  have h1:=(hb i hi).2 (key,val) (by rw [hy];exact hm);have h2:less key ks[i]=false:=by
   rcases Bool.eq_false_or_eq_true (less key ks[i]) with e | e
   ·exact absurd e h1
   ·exact e
  have:=(h1h h key i hi).2 h2;omega
theorem k6g {d:St} {key:Disk.Bs} {r a:Int} {l:List Stp} (h:Down d key r l a) {m:Nat} {x:Held} (hx:IsT d (m+1) r x):l.length<=m->∃ y,IsT d (m-l.length+1) a y/\(∀ val,(key,val)∈x.1↔(key,val)∈y.1)/\∀ k∈y.2,k∈x.2:=by
 induction h with
 | nil=>exact fun _=>⟨x,hx,fun _=>Iff.rfl,fun _ hk=>hk⟩
 | @snoc a l s h ha hp hk hi ih =>
  intro hm;rw [List.length_append,List.length_singleton] at hm ⊢;obtain ⟨y,hy,h1,h2⟩:=ih (by omega);obtain ⟨q,hq⟩:∃ q,m-l.length=q+1:=⟨m-l.length-1,by omega⟩;rw [hq] at hy;obtain ⟨p,L,hpp,hl,hkk,hb,e⟩:=hy;obtain rfl:=Page.g6u hpp.2.1 hp.2.1;obtain ⟨g1,-⟩:=(Page.g7x hp.2.2).1 (g2l hp);have hL:g0y s.p.keys key<L.length:=by omega
  have hz:=List.getElem?_eq_getElem hL;refine ⟨L[g0y s.p.keys key],?_,fun val=>(h1 val).trans ?_,fun k hk'=>h2 k ?_⟩
  ·rw [show m-(l.length+1)=q by omega];exact (hkk _ _ _ (List.getElem?_eq_getElem hi) hz).1
  ·rw [e]
   constructor
   ·intro hm';obtain ⟨w,hw,hwm⟩:=List.mem_flatMap.1 hm';obtain ⟨j,hj⟩:=List.mem_iff_getElem?.1 hw;have:=h2y g1.rises (by rw [hl,g1.kids]) hb hj hwm;subst this;rw [hz] at hj;cases hj;exact hwm
   ·exact fun hm'=>List.mem_flatMap.2 ⟨_,List.getElem_mem hL,hm'⟩
  ·rw [e];exact List.mem_cons_of_mem _ (List.mem_flatMap.2 ⟨_,List.getElem_mem hL,hk'⟩)
theorem h2c {d:St} {key:Disk.Bs} {r:Int} {m:Nat} {x:Held} (hx:IsT d (m+1) r x) {e:Int}:¬ WayQ d key r (m+1) e:=by
 rintro ⟨l,a,hd,hl,hno,-⟩;obtain ⟨y,hy,-,-⟩:=k6g hd hx (by omega)
 by_cases hm:l.length=m
 ·rw [show m-l.length+1=1 by omega] at hy;obtain ⟨p,hpp,-⟩:=hy;exact hno hpp.1 p hpp.2.1 (by rw [if_pos (by omega)];exact hpp.2.2)
 ·obtain ⟨q,hq⟩:∃ q,m-l.length=q+1:=⟨m-l.length-1,by omega⟩;rw [hq] at hy;obtain ⟨p,L,hpp,-⟩:=hy;exact hno hpp.1 p hpp.2.1 (by rw [if_neg (by omega)];exact hpp.2.2)
def VT (d:St):Nat->Pg->Held->Prop
 | 0,_,_=>False
 | 1,p,y=>p.kind=1/\y=(p.pairs,[])
 | m+2,p,y=>p.kind=2/\p.kids.length=p.keys.length+1/\∃ L:List Held,L.length=p.kids.length/\(∀ (i:Nat) (n:Int) (z:Held),p.kids[i]?=some n->L[i]?=some z->IsT d (m+1) n z/\g6i d n)/\g3q p.keys L/\y=(L.flatMap (·.1),L.flatMap (·.2))
theorem VT.kind {d:St}:∀ {m:Nat} {p:Pg} {y:Held},VT d m p y->p.kind=if m=1 then 1 else 2
 | 0,_,_,h=>h.elim
 | 1,_,_,h=>h.1
 | m+2,_,_,h=>by rw [if_neg (by omega)];exact h.1
theorem j4i {d:St}:∀ {m:Nat} {a:Int} {x:Held},IsT d m a x↔∃ p y,PgAt d a (if m=1 then 1 else 2) p/\VT d m p y/\x=(y.1,a :: y.2)
 | 0,_,_=>⟨fun h=>h.elim,fun ⟨_,_,_,h,_⟩=>h.elim⟩
 | 1,a,x=>⟨fun ⟨p,hp,e⟩=>⟨p,(p.pairs,[]),hp,⟨hp.2.2,rfl⟩,e⟩,fun ⟨p,y,hp,⟨_,hy⟩,e⟩=>⟨p,hp,by rw [e,hy]⟩⟩
 | m+2,a,x=>by
  rw [if_neg (by omega)]
  constructor
  ·rintro ⟨p,L,hp,hl,hk,hb,e⟩;obtain ⟨g1,-⟩:=(Page.g7x hp.2.2).1 (g2l hp);exact ⟨p,(L.flatMap (·.1),L.flatMap (·.2)),hp,⟨hp.2.2,g1.kids,L,hl,hk,hb,rfl⟩,e⟩
  ·rintro ⟨p,y,hp,⟨_,_,L,hl,hk,hb,rfl⟩,e⟩;exact ⟨p,L,hp,hl,hk,hb,e⟩
theorem VT.keep {d d':St} (hc:Store.Calm d) (hc':Store.Calm d') (hn:d'.n=d.n):∀ {m:Nat} {p:Pg} {y:Held},VT d m p y->(∀ k∈y.2,d'.get k=d.get k)->VT d' m p y
 | 0,_,_,h,_=>h.elim
 | 1,_,_,h,_=>h
 | m+2,_,_,⟨h1,h2,L,hl,hk,hb,e⟩,hg=>⟨h1,h2,L,hl,fun i n z hi hz=>(by
  have g:∀ k∈z.2,d'.get k=d.get k:=fun k hk'=>hg k (by
   rw [e];exact List.mem_flatMap.2 ⟨z,List.mem_of_getElem? hz,hk'⟩)
  exact ⟨(hk i n z hi hz).1.keep hc hc' hn g,(hk i n z hi hz).2.keep hc hc' hn (g n (g7o (hk i n z hi hz).1))⟩),hb,e⟩
theorem VT.same {d:St} {m:Nat} {p q:Pg} {y:Held} (h:VT d (m+2) p y) (h0:q.kind=2) (h1:q.keys=p.keys) (h2:q.kids=p.kids):VT d (m+2) q y:=by
 obtain ⟨-,g2,g3⟩:=h;rw [<- h1,<- h2] at g2;refine ⟨h0,g2,?_⟩;rw [h1,h2];exact g3
theorem p0o {x y:Disk.Bs} (h:less x y=true):¬ Lt y x:=fun g=>by
 have h1:less y x=true:=g;rw [h7g h] at h1;exact absurd h1 (by decide)
theorem h8x {x y z:Disk.Bs} (h:¬ Lt x y) (g:less z y=true):¬ Lt x z:=fun h1=>h (g4x (show less x z=true from h1) g)
theorem k2u {d:St}:∀ {m:Nat} {p:Pg} {y:Held},VT d m p y->g1j p<g0o p->(m=1->g1l Lt (p.pairs.map (·.1)))->(m≠1->g1l Lt p.keys) ->
 ∃ y1 y2,VT d m (g3d p) y1/\VT d m (g1t p) y2/\y.1=y1.1++y2.1/\y.2=y1.2++y2.2/\(∀ e∈y1.1,Lt e.1 (midK p))/\∀ e∈y2.1,¬ Lt e.1 (midK p)
 | 0,_,_,h,_,_,_=>h.elim
 | 1,p,y,⟨hk,hy⟩,hf,hs,_=>by
  have hs:=hs rfl;unfold g1j g0o at hf;rw [if_pos hk,if_pos hk] at hf;have hm:midP p<p.pairs.length:=by unfold midP;rw [if_pos hk];omega
  have eK:midK p=(p.pairs[midP p]).1:=by unfold midK;rw [if_pos hk,List.getElem?_eq_getElem hm];rfl
  have eL:g3d p={kind:=1,pairs:=p.pairs.take (midP p)}:=if_pos hk;have eR:g1t p={kind:=1,pairs:=p.pairs.drop (midP p)}:=if_pos hk;rw [eK,eL,eR,hy];refine ⟨(p.pairs.take (midP p),[]),(p.pairs.drop (midP p),[]),⟨rfl,rfl⟩,⟨rfl,rfl⟩,(List.take_append_drop _ _).symm,rfl,fun e he=>?_,fun e he=>?_⟩
  ·obtain ⟨i,hi,rfl⟩:=List.mem_iff_getElem.1 he;rw [List.length_take] at hi;have:=g5q hs (i:=i) (j:=midP p) (by omega) (by simpa using hm);rw [List.getElem_take];show less _ _=true
   simpa using this
  ·obtain ⟨i,hi,rfl⟩:=List.mem_iff_getElem.1 he;rw [List.length_drop] at hi;rw [List.getElem_drop];rcases Nat.eq_zero_or_pos i with rfl | h0
   ·intro g;have g1:less (p.pairs[midP p]).1 (p.pairs[midP p]).1=true:=g;rw [g2q] at g1;exact absurd g1 (by decide)
   ·refine p0o ?_;have:=g5q hs (i:=midP p) (j:=midP p+i) (by omega) (by simp;omega)
    simpa using this
 | m+2,p,y,⟨hk,hkk,L,hl,hL,hb,hy⟩,hf,_,hs=>by
  have hs:=hs (by omega);have hk1:¬ p.kind=1:=by rw [hk];decide
  unfold g1j g0o at hf;rw [if_neg hk1,if_neg hk1] at hf;have eM:midP p=p.keys.length / 2:=if_neg hk1;have hm:midP p<p.keys.length:=by omega
  have eK:midK p=p.keys[midP p]:=by unfold midK;rw [if_neg hk1,List.getElem?_eq_getElem hm];rfl
  have eL:g3d p={kind:=p.kind,keys:=p.keys.take (midP p),kids:=p.kids.take (midP p+1)}:=if_neg hk1;have eR:g1t p={kind:=p.kind,keys:=p.keys.drop (midP p+1),kids:=p.kids.drop (midP p+1)}:=if_neg hk1;rw [eK,eL,eR,hy];generalize midP p=q at *;have hsplit:=List.take_append_drop (q+1) L;refine ⟨((L.take (q+1)).flatMap (·.1),(L.take (q+1)).flatMap (·.2)),((L.drop (q+1)).flatMap (·.1),(L.drop (q+1)).flatMap (·.2)),
   ⟨hk,by simp;omega,L.take (q+1),by simp;omega,fun i n z hi hz=>?_,fun i hi=>?_,rfl⟩,
   ⟨hk,by simp;omega,L.drop (q+1),by simp;omega,fun i n z hi hz=>?_,fun i hi=>?_,rfl⟩,
   by rw [<- List.flatMap_append,hsplit],by rw [<- List.flatMap_append,hsplit],fun e he=>?_,fun e he=>?_⟩
  ·have hi':i<q+1:=by
    rcases Nat.lt_or_ge i (q+1) with g | g
    ·exact g
    ·rw [List.getElem?_take,if_neg (by omega)] at hi;cases hi
   rw [List.getElem?_take,if_pos hi'] at hi hz;exact hL i n z hi hz
  ·rw [List.length_take] at hi;have:=hb i (by omega);rw [List.getElem?_take,if_pos (by omega),List.getElem?_take,if_pos (by omega),List.getElem_take];exact this
  ·rw [List.getElem?_drop] at hi hz;exact hL _ n z hi hz
  ·rw [List.length_drop] at hi;have:=hb (q+1+i) (by omega);rw [List.getElem?_drop,List.getElem?_drop,List.getElem_drop];exact this
  ·obtain ⟨z,hz,hez⟩:=List.mem_flatMap.1 he;obtain ⟨i,hi⟩:=List.mem_iff_getElem?.1 hz;have hi':i<q+1:=by
    rcases Nat.lt_or_ge i (q+1) with g | g
    ·exact g
    ·rw [List.getElem?_take,if_neg (by omega)] at hi;cases hi
   rw [List.getElem?_take,if_pos hi'] at hi;have h1:Lt e.1 (p.keys[i]'(by omega)):=(hb i (by omega)).1 e (by rw [hi];exact hez);rcases Nat.lt_or_ge i q with g | g
   ·exact g4x (show less e.1 _=true from h1) (g5q hs g hm)
   ·obtain rfl:i=q:=by omega
    exact h1
  ·obtain ⟨z,hz,hez⟩:=List.mem_flatMap.1 he;obtain ⟨i,hi⟩:=List.mem_iff_getElem?.1 hz;rw [List.getElem?_drop] at hi;have hlt:q+1+i<L.length:=(List.getElem?_eq_some_iff.1 hi).1;have h1:¬ Lt e.1 (p.keys[q+i]'(by omega)):=(hb (q+i) (by omega)).2 e (by rw [show q+i+1=q+1+i by omega,hi];exact hez);rcases Nat.eq_zero_or_pos i with rfl | h0
   ·exact h1
   ·exact h8x h1 (g5q hs (i:=q) (j:=q+i) (by omega) (by omega))
theorem k1f {d:St}:∀ {m:Nat} {p q:Pg} {y z:Held} {k:Disk.Bs},VT d m p y->VT d m q z->(∀ e∈y.1,Lt e.1 k)->(∀ e∈z.1,¬ Lt e.1 k)->VT d m (g2h p k q) (y.1++z.1,y.2++z.2)
 | 0,_,_,_,_,_,h,_,_,_=>h.elim
 | 1,p,q,y,z,k,⟨hk,hy⟩,⟨_,hz⟩,_,_=>by
  have e:g2h p k q=g0j (p.pairs++q.pairs):=if_pos hk;rw [e,hy,hz];exact ⟨rfl,rfl⟩
 | m+2,p,q,y,z,k,⟨hk,hpk,L,hl,hL,hb,hy⟩,⟨_,hqk,M,hl',hM,hb',hz⟩,h1,h2=>by
  have e:g2h p k q=g0f (p.keys++[k]++q.keys) (p.kids++q.kids):=if_neg (by rw [hk];decide);rw [e,hy,hz];refine ⟨rfl,by simp;omega,L++M,by simp;omega,fun i n x hi hx=>?_,fun i hi=>?_,by simp⟩
  ·have hi:(p.kids++q.kids)[i]?=some n:=hi;rcases Nat.lt_or_ge i L.length with g | g
   ·rw [List.getElem?_append_left (by omega)] at hi;rw [List.getElem?_append_left g] at hx;exact hL i n x hi hx
   ·rw [List.getElem?_append_right (by omega)] at hi;rw [List.getElem?_append_right g,hl] at hx;exact hM _ n x hi hx
  ·have hi:i<(p.keys++[k]++q.keys).length:=hi;show (∀ e∈((L++M)[i]?.getD ([],[])).1,Lt e.1 (p.keys++[k]++q.keys)[i])/\∀ e∈((L++M)[i+1]?.getD ([],[])).1,¬ Lt e.1 (p.keys++[k]++q.keys)[i];rcases Nat.lt_trichotomy i p.keys.length with g | g | g
   ·have eK:(p.keys++[k]++q.keys)[i]=p.keys[i]:=by rw [List.getElem_append_left (by simp;omega),List.getElem_append_left g]
    rw [eK,List.getElem?_append_left (by omega),List.getElem?_append_left (by omega)];exact hb i g
   ·have eK:(p.keys++[k]++q.keys)[i]=k:=by
     rw [List.getElem_append_left (by simp;omega),List.getElem_append_right (by omega)];simp
    rw [eK,List.getElem?_append_left (by omega),List.getElem?_append_right (by omega)]
    constructor
    ·intro x hx;refine h1 x ?_;rw [hy];have g1:=List.getElem?_eq_getElem (l:=L) (i:=i) (by omega);rw [g1] at hx;exact List.mem_flatMap.2 ⟨_,List.getElem_mem _,hx⟩
    ·intro x hx;refine h2 x ?_;rw [hz];have g1:=List.getElem?_eq_getElem (l:=M) (i:=i+1-L.length) (by omega);rw [g1] at hx;exact List.mem_flatMap.2 ⟨_,List.getElem_mem _,hx⟩
   ·obtain ⟨j,rfl⟩:∃ j,i=p.keys.length+1+j:=⟨i-(p.keys.length+1),by omega⟩;have hj:j<q.keys.length:=by simp at hi;omega
    have eK:(p.keys++[k]++q.keys)[p.keys.length+1+j]=q.keys[j]:=by
     rw [List.getElem_append_right (by simp)]
     congr 1
     simp
    rw [eK,List.getElem?_append_right (by omega),List.getElem?_append_right (by omega),show p.keys.length+1+j-L.length=j by omega,show p.keys.length+1+j+1-L.length=j+1 by omega];exact hb' j hj
open Page (Pg Lay less Enc g0v Lt g1l g3h)
theorem g8z:∀ {l:List Disk.Bs},g1l Lt l↔l.Pairwise Lt
 | []=>⟨fun _=>.nil,fun _ _ hj=>by simp at hj⟩
 | a :: r=>by
  rw [List.pairwise_cons,<- g8z (l:=r)]
  constructor
  ·intro h;obtain ⟨h1,h2⟩:=g7e h;refine ⟨fun b hb=>?_,h1⟩;obtain ⟨i,hi,rfl⟩:=List.mem_iff_getElem.1 hb;exact h2 i hi
  ·rintro ⟨h1,h2⟩;exact j9v h2 h1
def g1u (l:Ents):Prop:=(l.map (·.1)).Pairwise Lt
theorem g4g {l r:Ents}:g1u (l++r)↔g1u l/\g1u r/\∀ a∈l,∀ b∈r,Lt a.1 b.1:=by
 unfold g1u;rw [List.map_append,List.pairwise_append];refine and_congr_right fun _=>and_congr_right fun _=>⟨fun h a ha b hb=>h _ (List.mem_map_of_mem ha) _ (List.mem_map_of_mem hb),fun h x hx y hy=>?_⟩
 obtain ⟨a,ha,rfl⟩:=List.mem_map.1 hx;obtain ⟨b,hb,rfl⟩:=List.mem_map.1 hy;exact h a ha b hb
theorem g5h {x y z:Disk.Bs} (h:Lt x y) (k:Lt y z):Lt x z:=g4x (show less x y=true from h) k
theorem lt_irrefl (x:Disk.Bs):¬ Lt x x:=fun h=>by
 have h1:less x x=true:=h;rw [g2q] at h1;exact absurd h1 (by decide)
theorem k1c {x y:Disk.Bs} (h:¬ Lt x y):x=y\/Lt y x:=by
 by_cases e:x=y
 ·exact .inl e
 ·refine .inr (h0n ?_ e);cases g:less x y
  ·rfl
  ·exact absurd g h
theorem p4d {e k k':Disk.Bs} (h:¬ Lt e k) (g:Lt e k'):Lt k k':=by
 rcases k1c h with rfl | h
 ·exact g
 ·exact g5h h g
theorem k0e {a k e:Disk.Bs} (h:Lt a k) (g:¬ Lt e k):Lt a e:=by
 rcases k1c g with rfl | g
 ·exact h
 ·exact g5h h g
theorem k8k {x y:Disk.Bs} (h:Lt x y):¬ Lt y x:=fun g=>lt_irrefl x (g5h h g)
theorem h9k {ks:List Disk.Bs} {L:List Held} (hb:g3q ks L) (hl:L.length=ks.length+1) (hne:∀ z∈L,z.1≠[]):g1l Lt ks:=fun j hj=>by
 have hj':j+1<L.length:=by omega
 have hm:=hne _ (List.getElem_mem hj');obtain ⟨e,he⟩:=List.exists_mem_of_ne_nil _ hm;have e1:=List.getElem?_eq_getElem hj';exact p4d ((hb j (by omega)).2 e (by rw [e1];exact he)) ((hb (j+1) hj).1 e (by rw [e1];exact he))
theorem g9n {ks:List Disk.Bs} {L:List Held} (hb:g3q ks L) (hl:L.length=ks.length+1) (hr:g1l Lt ks) (hs:∀ z∈L,g1u z.1):g1u (L.flatMap (·.1)):=by
 unfold g1u;rw [List.map_flatMap,List.pairwise_flatMap];refine ⟨fun z hz=>hs z hz,List.pairwise_iff_getElem.2 fun i j hi hj hij x hx y hy=>?_⟩;obtain ⟨a,ha,rfl⟩:=List.mem_map.1 hx;obtain ⟨b,hb',rfl⟩:=List.mem_map.1 hy;obtain ⟨q,rfl⟩:∃ q,j=q+1:=⟨j-1,by omega⟩;have h1:=(hb i (by omega)).1 a (by rw [List.getElem?_eq_getElem hi];exact ha);have h2:=(hb q (by omega)).2 b (by rw [List.getElem?_eq_getElem hj];exact hb')
 rcases Nat.eq_or_lt_of_le (show i<=q by omega) with rfl | g
 ·exact k0e h1 h2
 ·exact k0e (g5h h1 (g5q hr g (by omega))) h2
theorem g6q {d:St} {a k k':Int} {p q:Pg} (h:PgAt d a k p) (h':PgAt d a k' q):p=q:=Page.g6u h.2.1 h'.2.1
theorem g3c {d:St} {a:Int} {p:Pg} (h:PgAt d a 2 p):p.kids.length=p.keys.length+1:=((Page.g7x h.2.2).1 (g2l h)).1.kids
theorem h9v {d:St}:∀ {m:Nat} {a:Int} {x:Held},IsT d m a x->g6i d a->x.1≠[]
 | 0,_,_,h,_=>h.elim
 | 1,a,x,⟨p,hp,e⟩,⟨k,q,hq,hf⟩=>by
  obtain rfl:=g6q hp hq;rw [e];intro h;unfold g0p g0o at hf;rw [if_pos hp.2.2,if_pos hp.2.2,show p.pairs=[] from h] at hf;simp at hf
 | m+2,a,x,⟨p,L,hp,hl,hk,hb,e⟩,_=>by
  have h0:=g3c hp;have hL:0<L.length:=by omega
  have g:=hk 0 _ _ (List.getElem?_eq_getElem (by omega)) (List.getElem?_eq_getElem hL);have:=h9v g.1 g.2;rw [e];intro h;exact this (List.flatMap_eq_nil_iff.1 h _ (List.getElem_mem hL))
theorem k2h {d:St} {m:Nat} {p:Pg} {L:List Held} (hl:L.length=p.kids.length) (hk:∀ (i:Nat) (n:Int) (z:Held),p.kids[i]?=some n->L[i]?=some z->IsT d (m+1) n z/\g6i d n):∀ z∈L,z.1≠[]:=fun z hz=>by
 obtain ⟨i,hi,rfl⟩:=List.mem_iff_getElem.1 hz;have g:=hk i _ _ (List.getElem?_eq_getElem (by omega)) (List.getElem?_eq_getElem hi);exact h9v g.1 g.2
theorem g7l {d:St}:∀ {m:Nat} {a:Int} {x:Held},IsT d m a x->g1u x.1
 | 0,_,_,h=>h.elim
 | 1,a,x,⟨p,hp,e⟩=>by
  rw [e];exact g8z.1 ((Page.h6f hp.2.2).1 (g2l hp)).1.rises
 | m+2,a,x,⟨p,L,hp,hl,hk,hb,e⟩=>by
  rw [e];have h0:=g3c hp;refine g9n hb (by omega) ((Page.g7x hp.2.2).1 (g2l hp)).1.rises fun z hz=>?_
  obtain ⟨i,hi,rfl⟩:=List.mem_iff_getElem.1 hz;exact g7l (hk i _ _ (List.getElem?_eq_getElem (by omega)) (List.getElem?_eq_getElem hi)).1
theorem h8y {d:St} {m:Nat} {p:Pg} {y:Held} (h:VT d (m+2) p y):g1l Lt p.keys:=by
 obtain ⟨-,h0,L,hl,hk,hb,-⟩:=h;exact h9k hb (by omega) (k2h hl hk)
theorem k2d {d:St} {m:Nat} {p:Pg} {y:Held} (h:VT d (m+2) p y):g1u y.1:=by
 have hr:=h8y h;obtain ⟨-,h0,L,hl,hk,hb,e⟩:=h;rw [e];refine g9n hb (by omega) hr fun z hz=>?_
 obtain ⟨i,hi,rfl⟩:=List.mem_iff_getElem.1 hz;exact g7l (hk i _ _ (List.getElem?_eq_getElem (by omega)) (List.getElem?_eq_getElem hi)).1
theorem k2x {d:St} {m:Nat} {p:Pg} {y:Held} (h:VT d m p y) (hk:p.kind=1):m=1/\y=(p.pairs,[]):=by
 match m,h with
 | 0,h=>exact h.elim
 | 1,h=>exact ⟨rfl,h.2⟩
 | m+2,h=>have:=h.1;rw [hk] at this;exact absurd this (by decide)
theorem j0v {d:St} {m:Nat} {p:Pg} {y:Held} (h:VT d m p y) (hk:p.kind=2):∃ q,m=q+2:=by
 match m,h with
 | 0,h=>exact h.elim
 | 1,h=>have:=h.1;rw [hk] at this;exact absurd this (by decide)
 | m+2,h=>exact ⟨m,rfl⟩
open Page (Pg Lay PgOk g0c pgC pgV Enc g0v BytesAt less Lt g1l)
def InR (lo hi:Disk.Bs) (es:List (Disk.Bs×Disk.Bs)):Prop:=∀ e∈es,¬ Lt e.1 lo/\(hi≠[]->Lt e.1 hi)
def lowK (ks:List Disk.Bs) (lo:Disk.Bs) (i:Nat):Disk.Bs:=if 0<i then ks[i-1]?.getD [] else lo
def h2b (ks:List Disk.Bs) (hi:Disk.Bs) (i:Nat):Disk.Bs:=if i<ks.length then ks[i]?.getD [] else hi
theorem p1o {lo hi:Disk.Bs} {ks:List Disk.Bs} {L:List Held} (hb:g3q ks L) (hl:L.length=ks.length+1) (h:InR lo hi (L.flatMap (·.1))) {i:Nat} (hi':i<L.length):InR (lowK ks lo i) (h2b ks hi i) L[i].1:=by
 intro e he;have hm:=h e (List.mem_flatMap.2 ⟨L[i],List.getElem_mem hi',he⟩)
 constructor
 ·unfold lowK
  split
  ·rename_i h0
   obtain ⟨q,rfl⟩:∃ q,i=q+1:=⟨i-1,by omega⟩;have:=(hb q (by omega)).2 e (by rw [List.getElem?_eq_getElem hi'];exact he);rw [show q+1-1=q by omega,List.getElem?_eq_getElem (by omega)];exact this
  ·exact hm.1
 ·unfold h2b
  split
  ·rename_i h0
   intro _;have:=(hb i h0).1 e (by rw [List.getElem?_eq_getElem hi'];exact he);rw [List.getElem?_eq_getElem h0];exact this
  ·exact hm.2
theorem k9y {lo hi:Disk.Bs} {ks:List Disk.Bs} {L:List Held} (hb:g3q ks L) (hl:L.length=ks.length+1) (h:InR lo hi (L.flatMap (·.1))) (hne:∀ z∈L,z.1≠[]) (hlo:hi≠[]->Lt lo hi) {i:Nat} (hi':i<L.length) :
 ¬ Lt (lowK ks lo i) lo/\(hi≠[]->Lt (lowK ks lo i) hi):=by
 unfold lowK
 split
 ·rename_i h0
  obtain ⟨q,rfl⟩:∃ q,i=q+1:=⟨i-1,by omega⟩;have hq:q<ks.length:=by omega
  rw [show q+1-1=q by omega,List.getElem?_eq_getElem hq];show ¬ Lt ks[q] lo/\(hi≠[]->Lt ks[q] hi);have hq1:q<L.length:=by omega
  obtain ⟨e,he⟩:=List.exists_mem_of_ne_nil _ (hne _ (List.getElem_mem hq1));obtain ⟨f,hf⟩:=List.exists_mem_of_ne_nil _ (hne _ (List.getElem_mem hi'));have e1:=(hb q hq).1 e (by rw [List.getElem?_eq_getElem hq1];exact he);have f1:=(hb q hq).2 f (by rw [List.getElem?_eq_getElem hi'];exact hf);have e2:=(h e (List.mem_flatMap.2 ⟨_,List.getElem_mem hq1,he⟩)).1;have f2:=(h f (List.mem_flatMap.2 ⟨_,List.getElem_mem hi',hf⟩)).2
  refine ⟨fun g=>e2 (g5h e1 g),fun hh=>?_⟩;have f3:=f2 hh
  by_cases hc:ks[q]=f.1
  ·rw [hc];exact f3
  ·have:Lt ks[q] f.1:=by
    rcases Bool.eq_false_or_eq_true (less f.1 ks[q]) with g | g
    ·exact absurd g f1
    ·exact h0n g (fun e=>hc e.symm)
   exact g5h this f3
 ·refine ⟨fun g=>?_,hlo⟩;have:less lo lo=true:=g;rw [g2q] at this;exact absurd this (by decide)
open Page (Pg Lay less Enc g0v Lt g1l g3h Fine)
theorem j3c {x y:Disk.Bs} (h:¬ Lt x y):less x y=false:=by
 cases e:less x y
 ·rfl
 ·exact absurd e h
theorem k3g {A l:List Disk.Bs} {key:Disk.Bs} (h:∀ a∈A,Lt a key):g0s (A++l) key=A.length+g0s l key:=by
 induction A with
 | nil=>simp
 | cons a A ih =>
  rw [List.cons_append,g5d,if_pos (show less a key=true from h a (List.mem_cons_self ..)),ih (fun b hb=>h b (List.mem_cons_of_mem _ hb)),List.length_cons];omega
theorem j8c {l B:List Disk.Bs} {key:Disk.Bs} (h:∀ b∈B,¬ Lt b key):g0s (l++B) key=g0s l key:=by
 induction l with
 | nil =>
  rw [List.nil_append];cases B with
  | nil=>rfl
  | cons b B =>
   rw [g5d,if_neg (show ¬ less b key=true from h b (List.mem_cons_self ..))]
   rfl
 | cons a l ih=>rw [List.cons_append,g5d,g5d,ih]
theorem k3w {A l B:List Disk.Bs} {key:Disk.Bs} (hA:∀ a∈A,Lt a key) (hB:∀ b∈B,Lt key b):g0s (A++l++B) key=A.length+g0s l key:=by
 rw [j8c (fun b hb=>k8k (hB b hb)),k3g hA]
theorem p0j {A l B:List Disk.Bs} {key:Disk.Bs} (hA:∀ a∈A,Lt a key) (hB:∀ b∈B,Lt key b):g2j (A++l++B) key=g2j l key:=by
 unfold g2j;rw [k3w hA hB,List.append_assoc,List.getElem?_append_right (by omega),show A.length+g0s l key-A.length=g0s l key by omega];rcases Nat.lt_or_ge (g0s l key) l.length with h | h
 ·rw [List.getElem?_append_left h]
 ·have:=h0l l key;have e:g0s l key=l.length:=by omega
  rw [List.getElem?_append_right h,List.getElem?_eq_none h,e,Nat.sub_self];cases B with
  | nil=>rfl
  | cons b B =>
   have hb:=hB b (List.mem_cons_self ..);have:b≠key:=fun e=>by rw [e] at hb;exact lt_irrefl _ hb
   simp [this]
theorem k4i {A l B:Ents}:keysOf (A++l++B)=keysOf A++keysOf l++keysOf B:=by
 show (A++l++B).map (·.1)=_;rw [List.map_append,List.map_append]
structure g6z (key:Disk.Bs) (A B:Ents):Prop where
 lo:∀ e∈A,Lt e.1 key
 hi:∀ e∈B,Lt key e.1
theorem g6z.ks {key:Disk.Bs} {A B:Ents} (h:g6z key A B):(∀ a∈keysOf A,Lt a key)/\∀ b∈keysOf B,Lt key b :=
 ⟨fun a ha=>by obtain ⟨e,he,rfl⟩:=List.mem_map.1 ha;exact h.lo e he,fun b hb=>by obtain ⟨e,he,rfl⟩:=List.mem_map.1 hb;exact h.hi e he⟩
theorem g4t (l:Ents):(keysOf l).length=l.length:=List.length_map ..
theorem h0v {key:Disk.Bs} {A B l:Ents} (h:g6z key A B):g0s (keysOf (A++l++B)) key=A.length+g0s (keysOf l) key:=by
 rw [k4i,k3w h.ks.1 h.ks.2,g4t]
theorem g8g {key:Disk.Bs} {A B l:Ents} (h:g6z key A B):g2j (keysOf (A++l++B)) key=g2j (keysOf l) key:=by
 rw [k4i,p0j h.ks.1 h.ks.2]
theorem j8k {key:Disk.Bs} {A B l:Ents} (h:g6z key A B):g1d (A++l++B) key=A.length+g1d l key:=by
 unfold g1d;rw [h0v h,g8g h]
 split <;> omega
theorem h8t {key:Disk.Bs} {A B l:Ents} (h:g6z key A B):(A++l++B).take (g0s (keysOf (A++l++B)) key)=A++l.take (g0s (keysOf l) key)/\(A++l++B).drop (g1d (A++l++B) key)=l.drop (g1d l key)++B:=by
 obtain ⟨h1,h2⟩:=h4e l key;have h3:g0s (keysOf l) key<=l.length:=by have:=h0l (keysOf l) key;rw [g4t] at this;exact this
 rw [h0v h,j8k h]
 constructor
 ·rw [List.append_assoc,List.take_append,List.take_of_length_le (by omega),show A.length+g0s (keysOf l) key-A.length=g0s (keysOf l) key by omega,List.take_append_of_le_length h3]
 ·rw [List.append_assoc,List.drop_append,List.drop_eq_nil_of_le (by omega),List.nil_append,show A.length+g1d l key-A.length=g1d l key by omega,List.drop_append_of_le_length h2]
theorem j6o {key:Disk.Bs} {A B l:Ents} (h:g6z key A B) (val:Disk.Bs):setP (A++l++B) key val=A++setP l key val++B:=by
 unfold setP;rw [(h8t h).1,(h8t h).2];simp
theorem j6u {key:Disk.Bs} {A B l:Ents} (h:g6z key A B):cutP (A++l++B) key=A++cutP l key++B:=by
 unfold cutP;rw [(h8t h).1,(h8t h).2];simp
theorem k4r {key:Disk.Bs} {A B l:Ents} (h:g6z key A B):valOf (A++l++B) key=valOf l key:=by
 unfold valOf;rw [g8g h]
 split
 ·rename_i hh
  obtain ⟨h1,-⟩:=(g5a _ _).1 hh;rw [g4t] at h1;rw [h0v h,List.append_assoc,List.getElem?_append_right (by omega),show A.length+g0s (keysOf l) key-A.length=g0s (keysOf l) key by omega,List.getElem?_append_left h1]
 ·rfl
theorem g8k {l:Ents} (hs:g1u l) (key:Disk.Bs):g6z key (l.take (g0s (keysOf l) key)) (l.drop (g1d l key)):=by
 have hr:g1l Lt (keysOf l):=g8z.2 hs;refine ⟨fun e he=>?_,fun e he=>?_⟩
 ·obtain ⟨i,hi,rfl⟩:=List.mem_iff_getElem.1 he;rw [List.length_take] at hi;have:=(g7y hr key i (by rw [g4t];omega)).2 (by omega);rw [List.getElem_take];show less _ _=true
  simpa using this
 ·obtain ⟨i,hi,rfl⟩:=List.mem_iff_getElem.1 he;rw [List.length_drop] at hi;rw [List.getElem_drop];have hlt:g1d l key+i<(keysOf l).length:=by rw [g4t];omega
  have hnp:g0s (keysOf l) key<=g1d l key:=by unfold g1d;split <;> omega
  have ek:(keysOf l)[g1d l key+i]=(l[g1d l key+i]'(by omega)).1:=by simp
  rw [<- ek];have h1:¬ Lt (keysOf l)[g1d l key+i] key:=fun h=>by
   have:=(g7y hr key _ hlt).1 h;omega
  rcases k1c h1 with e | h
  ·exfalso
   have hm:g2j (keysOf l) key=true:=(k3u hr key).2 (e ▸ List.getElem_mem hlt);obtain ⟨g1,g2⟩:=(g5a _ _).1 hm;have en:g1d l key=g0s (keysOf l) key+1:=by unfold g1d;rw [if_pos hm]
   have:=g5q hr (i:=g0s (keysOf l) key) (j:=g1d l key+i) (by omega) hlt;rw [g2,e] at this;exact lt_irrefl _ this
  ·exact h
theorem h5p {l:Ents} (h:g1u l) (n:Nat):g1u (l.take n):=by
 have:l=l.take n++l.drop n:=(List.take_append_drop n l).symm;rw [this] at h;exact (g4g.1 h).1
theorem h5s {l:Ents} (h:g1u l) (n:Nat):g1u (l.drop n):=by
 have:l=l.take n++l.drop n:=(List.take_append_drop n l).symm;rw [this] at h;exact (g4g.1 h).2.1
theorem h7j (e:Disk.Bs×Disk.Bs):g1u [e]:=by
 unfold g1u;simp
theorem j4j {l:Ents} (h:g1u l) (key val:Disk.Bs):g1u (setP l key val):=by
 have ha:=g8k h key;have:setP l key val=l.take (g0s (keysOf l) key)++([(key,val)]++l.drop (g1d l key)):=by unfold setP;simp
 rw [this];refine g4g.2 ⟨h5p h _,g4g.2 ⟨h7j _,h5s h _,fun a ha' b hb=>?_⟩,fun a ha' b hb=>?_⟩
 ·rw [List.mem_singleton] at ha';rw [ha'];exact ha.hi b hb
 ·rcases List.mem_append.1 hb with hb | hb
  ·rw [List.mem_singleton] at hb;rw [hb];exact ha.lo a ha'
  ·exact g5h (ha.lo a ha') (ha.hi b hb)
theorem j4g {l:Ents} (h:g1u l) (key:Disk.Bs):g1u (cutP l key):=by
 have ha:=g8k h key;exact g4g.2 ⟨h5p h _,h5s h _,fun a ha' b hb=>g5h (ha.lo a ha') (ha.hi b hb)⟩
theorem j7l {l:Ents} {key val:Disk.Bs} {e:Disk.Bs×Disk.Bs} (h:e∈setP l key val):e∈l\/e=(key,val):=by
 unfold setP at h;rcases List.mem_append.1 h with h | h
 ·exact .inl (List.mem_of_mem_take h)
 ·rcases List.mem_cons.1 h with h | h
  ·exact .inr h
  ·exact .inl (List.mem_of_mem_drop h)
theorem j7p {l:Ents} {key:Disk.Bs} {e:Disk.Bs×Disk.Bs} (h:e∈cutP l key):e∈l:=by
 unfold cutP at h;rcases List.mem_append.1 h with h | h
 ·exact List.mem_of_mem_take h
 ·exact List.mem_of_mem_drop h
end Go.Proofs.YtglejnkoojpelaaGreat.Tree
