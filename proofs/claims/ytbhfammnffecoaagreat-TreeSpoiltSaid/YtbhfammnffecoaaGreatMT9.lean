import Derived.Test.YtbhfammnffecoaaGreatMT8
import Derived.Test.YtbhfammnffecoaaGreatMA1
import Derived.Test.YtbhfammnffecoaaGreatMT7
import Derived.Test.YtbhfammnffecoaaGreatMT2
import Derived.Test.YtbhfammnffecoaaGreatMT6
import Derived.Test.YtbhfammnffecoaaGreatMT3
set_option maxRecDepth 100000
set_option maxHeartbeats 32000000
namespace Go.Proofs.YtbhfammnffecoaaGreat.Tree
open Go.RowKit Gen
open Disk (St Dev Mod ptr)
open Page (Pg Lay PgOk PgRows pgC pgV Enc IsDec BytesAt strV strB PRow SRow IRow less)
open Pool (Po NAt PoAt La poC poV numV At takeP giveP backP Fresh PoolOk OwnI chunks layAll May)
open Store
open Lib (hid)
theorem joined_branch {w:World} {p q:Pg} {y z:Lay} {n m:Nat} (hk:p.kind=2) (hr:PgRows w p y) (hq:PgRows w q z) (hn:Page.New p y n) (hm:Page.New q z m) (hl:p.keys.length+q.keys.length<=5000/\p.kids.length+q.kids.length<=5000) (key:Disk.Bs) :
 Calls Tryz.prog 142 #[pgV p y,strV key,pgV q z] w (fun e w'=>∃ yy,e=.returned (pgV (branchOf (p.keys++[key]++q.keys) (p.kids++q.kids)) yy)/\PgRows w' (branchOf (p.keys++[key]++q.keys) (p.kids++q.kids)) yy/\Page.New (branchOf (p.keys++[key]++q.keys) (p.kids++q.kids)) yy w.heap.size/\Below w.heap.size w w'):=by
 have b1:=Pool.below_box w (.cells (pgC p y) 82);have a1:=at_new w (pgC p y) 82;obtain ⟨W1,hW1⟩:∃ W1,w.alloc (.cells (pgC p y) 82)=W1:=⟨_,rfl⟩;rw [hW1] at b1 a1;have b2:=Pool.below_box W1 (.cells (pgC q z) 82);have a2:=at_new W1 (pgC q z) 82;obtain ⟨W2,hW2⟩:∃ W2,W1.alloc (.cells (pgC q z) 82)=W2:=⟨_,rfl⟩;rw [hW2] at b2 a2;have b3:=Pool.below_box W2 (.cells pgZ 82);have a3:=at_new W2 pgZ 82;have a1':=(a1.below b2 a1.1).below b3 (a1.below b2 a1.1).1
 have a2':=a2.below b3 a2.1;obtain ⟨W3,hW3⟩:∃ W3,W2.alloc (.cells pgZ 82)=W3:=⟨_,rfl⟩;rw [hW3] at b3 a1' a2' a3;have B3:=hid (b1.trans ((b2.trans (b3.mono b2.size)).mono b1.size));have k0:W3.cell? ⟨w.heap.size,0,none⟩=some (.int .i64 2):=by rw [<- hk];exact a1'.2.2 0 _ rfl
 have HS:=hid (show ∀ V,Below W3.heap.size W3 V->V.cell? ⟨w.heap.size,2,none⟩=some (.slice y.A2 p.keys.length y.c2)/\V.cell? ⟨w.heap.size,3,none⟩=some (.slice y.A3 p.kids.length y.c3)/\V.cell? ⟨W1.heap.size,2,none⟩=some (.slice z.A2 q.keys.length z.c2)/\V.cell? ⟨W1.heap.size,3,none⟩=some (.slice z.A3 q.kids.length z.c3) from fun V hb=>⟨(a1'.below hb a1'.1).2.2 2 _ rfl,(a1'.below hb a1'.1).2.2 3 _ rfl,(a2'.below hb a2'.1).2.2 2 _ rfl,(a2'.below hb a2'.1).2.2 3 _ rfl⟩)
 have RP:=hid (show ∀ V,Below W3.heap.size W3 V->TreeS.SPok V ⟨y.A2,p.keys.length,y.c2,p.keys⟩/\TreeS.SPok V ⟨z.A2,q.keys.length,z.c2,q.keys⟩/\TreeI.IPok V ⟨y.A3,p.kids.length,y.c3,p.kids⟩/\TreeI.IPok V ⟨z.A3,q.kids.length,z.c3,q.kids⟩ from fun V hb=>by
  have hb':=B3.out.trans (hb.mono B3.out.size);exact ⟨⟨rfl,hn.z2,(hr.below hb').r2⟩,⟨rfl,hm.z2,(hq.below hb').r2⟩,⟨rfl,hn.z3,(hr.below hb').r3⟩,⟨rfl,hm.z3,(hq.below hb').r3⟩⟩)
 have AZ:=hid a3;have HL:=hid hl;have NW:=hid (show w.heap.size<=W2.heap.size/\W2.heap.size<W3.heap.size from ⟨(b1.trans (b2.mono b1.size)).size,a3.1⟩);have NQ:=hid (show w.heap.size∉[W2.heap.size]/\W1.heap.size∉[W2.heap.size] from ⟨by have:=a1.1;have:=b2.size;simp;omega,by have:=a2.1;simp;omega⟩);obtain ⟨C1,hC1⟩:∃ C,pgC p y=C:=⟨_,rfl⟩;obtain ⟨C2,hC2⟩:∃ C,pgC q z=C:=⟨_,rfl⟩;rw [show pgV p y=.agg C1 from congrArg Value.agg hC1,show pgV q z=.agg C2 from congrArg Value.agg hC2]
 rw [hC1] at hW1;rw [hC2] at hW2;obtain ⟨kb',hks⟩:∃ ks,strB key=ks:=⟨_,rfl⟩;have HKS:=hid hks;rw [show strV key=.string kb' by rw [<- hks]];have hW3':W2.alloc (.cells #[.int .i64 0,.slice none 0 0,.slice none 0 0,.slice none 0 0,.slice none 0 0,.int .i64 0,.int .u64 0,.int .i64 0,.int .i64 0,.int .i64 0,.int .i64 0] 82)=W3:=hW3;have hkf:((2:Int)==1)=false:=by decide
 have BD:=hid (show Below W3.heap.size W3 W3.drew from (Below.refl _ _).drew);clear a1 a2 a1' a2' a3 b1 b2 b3 hr hq hn hm hk hl hC1 hC2 hks hW3;go_enter Tryz.func142,Tryz.ntmps142
 go_wp2_with (first | ((with_reducible refine Disk.wpList_box_eq rfl 82 (.tmp 0) rfl C1 ?_ ?_);(next=>rfl)) | ((with_reducible refine Disk.wpList_box_eq rfl 82 (.tmp 2) rfl C2 ?_ ?_);(next=>rfl)))
 clear hW1 hW2 hW3';refine wp_region_held (S:=fun V=>V.cell? ⟨w.heap.size,2,none⟩=some (.slice y.A2 p.keys.length y.c2)/\V.cell? ⟨w.heap.size,3,none⟩=some (.slice y.A3 p.kids.length y.c3)/\V.cell? ⟨W1.heap.size,2,none⟩=some (.slice z.A2 q.keys.length z.c2)/\V.cell? ⟨W1.heap.size,3,none⟩=some (.slice z.A3 q.kids.length z.c3)) (by kernel_rfl) ?_;change wpAnyH _ _ _ _ _ _ _ _ W3.drew;have e0:=BD.out;obtain ⟨V0,hV0⟩:∃ V0,W3.drew=V0:=⟨_,rfl⟩
 rw [hV0] at e0 ⊢;clear hV0 BD;have hSR:=HS.out _ e0;refine Gen.tk 0 hSR ?_;simp only [Act.put];refine Gen.tk 1 hSR ?_;simp only [Act.put];refine Gen.tk 2 hSR ?_;simp only [Act.put];refine Gen.tk 4 hSR ?_;simp only [Act.put];refine Gen.tk 5 hSR ?_;simp only [Act.put];refine Gen.tk 8 hSR ?_;simp only [Act.put];refine Gen.tk 9 hSR ?_;simp only [Act.put];refine Gen.tk 10 hSR ?_;simp only [Act.put];refine Gen.tk 11 hSR ?_
 simp only [Act.put];refine wpAnyH_ready (rs:=[3,12]) (by kernel_rfl) (by simp) (AllReadyH.cons rfl (fun K hK=>?_) (AllReadyH.cons rfl (fun K hK=>?_) AllReadyH.nil))
 ·go_simp
  have f1:=Pool.below_box V0 (.cells #[.string kb'] 9);have g1:=at_new V0 #[.string kb'] 9;have e1:=e0.trans (f1.mono e0.size);refine hK.out _ _ (HS.out _ e1) (fun hSR=>?_);clear hK K;obtain ⟨V1,hV1⟩:∃ V,V0.alloc (.cells #[.string kb'] 9)=V:=⟨_,rfl⟩;rw [hV1] at f1 g1 e1 hSR ⊢;clear hV1;refine wpAnyH_ready (rs:=[6,12]) (by kernel_rfl) (by simp) (AllReadyH.cons rfl (fun K hK=>?_) (AllReadyH.cons rfl (fun K hK=>?_) AllReadyH.nil))
  ·go_simp
   have f2:=Pool.below_box V1 (.cells #[.slice y.A2 p.keys.length y.c2,.slice (some ⟨V0.heap.size,0,none⟩) 1 1,.slice z.A2 q.keys.length z.c2] 57);have g2:=at_new V1 #[.slice y.A2 p.keys.length y.c2,.slice (some ⟨V0.heap.size,0,none⟩) 1 1,.slice z.A2 q.keys.length z.c2] 57;have hK2:=g1.below f2 g1.1;have e2:=e1.trans (f2.mono e1.size);refine hK.out _ _ (HS.out _ e2) (fun hSR=>?_);clear hK K;obtain ⟨V2,hV2⟩:∃ V,V1.alloc (.cells #[.slice y.A2 p.keys.length y.c2,.slice (some ⟨V0.heap.size,0,none⟩) 1 1,.slice z.A2 q.keys.length z.c2] 57)=V:=⟨_,rfl⟩
   rw [hV2] at f2 g2 e2 hSR hK2 ⊢;clear hV2;refine wpAnyH_ready (rs:=[7,12]) (by kernel_rfl) (by simp) (AllReadyH.cons rfl (fun K hK=>?_) (AllReadyH.cons rfl (fun K hK=>?_) AllReadyH.nil))
   ·go_simp
    have c3:=cat3s V2 g2 (RP.out _ e2).1 (l2:=[key]) ⟨rfl,fun e=>(by cases e),fun _=>⟨V0.heap.size,0,rfl,hK2.1,fun k hk=>(by obtain rfl:k=0:=(by simpa using hk);rw [show strV [key][0]=.string kb' from by rw [<- HKS.out];rfl];exact hK2.2.2 0 _ rfl)⟩⟩ (RP.out _ e2).2.1 (by have:=HL.out;omega);refine c3.mono ?_;rintro e V3 ⟨v3,rfl,o3,f3⟩;clear c3;have hK3:=hK2.below f3 hK2.1;have hC33:=g2.below f3 g2.1
    have o3':=own_low o3 e2.size;have e3:=e2.trans (f3.mono e2.size);refine hK.out _ _ (HS.out _ e3) (fun hSR=>?_);clear hK K;refine wpAnyH_ready (rs:=[12]) (by kernel_rfl) (by simp) (AllReadyH.cons rfl (fun K hK=>?_) AllReadyH.nil);go_simp
    have f4:=Pool.below_box V3 (.cells #[.slice y.A3 p.kids.length y.c3,.slice z.A3 q.kids.length z.c3] 68);have g4:=at_new V3 #[.slice y.A3 p.kids.length y.c3,.slice z.A3 q.kids.length z.c3] 68;have hK4:=hK3.below f4 hK3.1;have hC34:=hC33.below f4 hC33.1;have hOS4:=OwnG.kept o3' f4;have e4:=e3.trans (f4.mono e3.size);refine hK.out _ _ (HS.out _ e4) (fun hSR=>?_);clear hK K;obtain ⟨V4,hV4⟩:∃ V,V3.alloc (.cells #[.slice y.A3 p.kids.length y.c3,.slice z.A3 q.kids.length z.c3] 68)=V:=⟨_,rfl⟩
    rw [hV4] at f4 g4 e4 hSR hK4 hC34 hOS4 ⊢;clear hV4;refine wpAnyH_ready (rs:=[13]) (by kernel_rfl) (by simp) (AllReadyH.cons rfl (fun K hK=>?_) AllReadyH.nil);go_simp
    have c5:=cat2i V4 g4 (RP.out _ e4).2.2.1 (RP.out _ e4).2.2.2 (by have:=HL.out;omega);refine c5.mono ?_;rintro e V5 ⟨v5,rfl,o5,f5⟩;clear c5;have hK5:=hK4.below f5 hK4.1;have hC35:=hC34.below f5 hC34.1;have hC25:=g4.below f5 g4.1;have hOS5:=OwnG.kept hOS4 f5;have o5':=own_low o5 e4.size;have e5:=e4.trans (f5.mono e4.size);refine hK.out _ _ (HS.out _ e5) (fun hSR=>?_);clear hK K;obtain ⟨yy,ek,en,ep,rs,rv,pr,pn,bb,mb⟩:=branch_end (w:=w) (AZ.out.below e5 AZ.out.1) rfl (B3.out.trans (e5.mono B3.out.size)) hOS5 o5' NW.out.1 NW.out.2
    subst ek en;obtain ⟨Vz,hVz⟩:∃ Vz,V5.setCells W2.heap.size 0 (pgC (branchOf (p.keys++[key]++q.keys) (p.kids++q.kids)) yy).toList=Vz:=⟨_,rfl⟩;rw [hVz] at rs rv pr bb mb;clear hVz;obtain ⟨na,hna⟩:∃ na,(p.keys++[key]++q.keys).length=na:=⟨_,rfl⟩;obtain ⟨nb,hnb⟩:∃ nb,(p.kids++q.kids).length=nb:=⟨_,rfl⟩;rw [hna,hnb] at ep ⊢;rw [ep] at rs;have SN:=hid (show Vz.cell? ⟨w.heap.size,2,none⟩=some (.slice y.A2 p.keys.length y.c2)/\Vz.cell? ⟨w.heap.size,3,none⟩=some (.slice y.A3 p.kids.length y.c3)/\Vz.cell? ⟨W1.heap.size,2,none⟩=some (.slice z.A2 q.keys.length z.c2)/\Vz.cell? ⟨W1.heap.size,3,none⟩=some (.slice z.A3 q.kids.length z.c3) from by
     obtain ⟨s1,s2,s3,s4⟩:=hSR;exact ⟨(mb.cell (p:=⟨w.heap.size,2,none⟩) (World.block_lt_of_cell? _ _ s1) NQ.out.1).trans s1,(mb.cell (p:=⟨w.heap.size,3,none⟩) (World.block_lt_of_cell? _ _ s2) NQ.out.1).trans s2,(mb.cell (p:=⟨W1.heap.size,2,none⟩) (World.block_lt_of_cell? _ _ s3) NQ.out.2).trans s3,(mb.cell (p:=⟨W1.heap.size,3,none⟩) (World.block_lt_of_cell? _ _ s4) NQ.out.2).trans s4⟩)
    have RS:=hid rs;have RV:=hid rv;have FIN:=hid (show PgRows _ _ yy/\Page.New _ yy w.heap.size/\Below _ _ _ from ⟨pr,pn.mono (Nat.le_trans NW.out.1 (Nat.le_of_lt NW.out.2)),bb⟩);clear ep rs rv pr pn bb mb hna hnb;refine Gen.tk 14 hSR ?_
    (try simp only [List.getElem_toArray]);(try simp only [List.getElem_cons_succ]);(try simp only [List.getElem_cons_zero]);(try simp only [Act.put]);(try simp only [List.setIfInBounds_toArray]);(try simp only [List.set_cons_succ]);(try simp only [List.set_cons_zero])
    refine wpAnyH_ready (rs:=[15]) (by kernel_rfl) (by simp) (AllReadyH.cons rfl (fun K hK=>?_) AllReadyH.nil);refine step_store_eq (by rfl) 82 (.tmp 6) (.tmp 31) (by rfl) (by rfl) (by rfl) RS.out ?_;refine hK.out _ _ SN.out (fun hSR=>?_);clear hK K;simp only [Act.put];refine wpAnyH_done (by kernel_rfl) ?_ _;clear hSR RS SN;go_wp2_with fail
    refine bodyPost_ret (results_c rfl rfl RV.out) rfl ?_;exact ⟨yy,rfl,FIN.out⟩
   ·go_simp
    have f7:=Pool.below_box V2 (.cells #[.slice y.A3 p.kids.length y.c3,.slice z.A3 q.kids.length z.c3] 68);have g7:=at_new V2 #[.slice y.A3 p.kids.length y.c3,.slice z.A3 q.kids.length z.c3] 68;have hK7:=hK2.below f7 hK2.1;have hC37:=g2.below f7 g2.1;have e7:=e2.trans (f7.mono e2.size);refine hK.out _ _ (HS.out _ e7) (fun hSR=>?_);clear hK K;obtain ⟨V7,hV7⟩:∃ V,V2.alloc (.cells #[.slice y.A3 p.kids.length y.c3,.slice z.A3 q.kids.length z.c3] 68)=V:=⟨_,rfl⟩
    rw [hV7] at f7 g7 e7 hSR hK7 hC37 ⊢;clear hV7;refine wpAnyH_ready (rs:=[7]) (by kernel_rfl) (by simp) (AllReadyH.cons rfl (fun K hK=>?_) AllReadyH.nil);go_simp
    have c8:=cat3s V7 hC37 (RP.out _ e7).1 (l2:=[key]) ⟨rfl,fun e=>(by cases e),fun _=>⟨V0.heap.size,0,rfl,hK7.1,fun k hk=>(by obtain rfl:k=0:=(by simpa using hk);rw [show strV [key][0]=.string kb' from by rw [<- HKS.out];rfl];exact hK7.2.2 0 _ rfl)⟩⟩ (RP.out _ e7).2.1 (by have:=HL.out;omega);refine c8.mono ?_;rintro e V8 ⟨v8,rfl,o8,f8⟩;clear c8;have hK8:=hK7.below f8 hK7.1;have hC38:=hC37.below f8 hC37.1
    have hC28:=g7.below f8 g7.1;have o8':=own_low o8 e7.size;have e8:=e7.trans (f8.mono e7.size);refine hK.out _ _ (HS.out _ e8) (fun hSR=>?_);clear hK K;refine wpAnyH_ready (rs:=[13]) (by kernel_rfl) (by simp) (AllReadyH.cons rfl (fun K hK=>?_) AllReadyH.nil);go_simp
    have c9:=cat2i V8 hC28 (RP.out _ e8).2.2.1 (RP.out _ e8).2.2.2 (by have:=HL.out;omega);refine c9.mono ?_;rintro e V9 ⟨v9,rfl,o9,f9⟩;clear c9;have hK9:=hK8.below f9 hK8.1;have hC39:=hC38.below f9 hC38.1;have hC29:=hC28.below f9 hC28.1;have hOS9:=OwnG.kept o8' f9;have o9':=own_low o9 e8.size;have e9:=e8.trans (f9.mono e8.size);refine hK.out _ _ (HS.out _ e9) (fun hSR=>?_);clear hK K;obtain ⟨yy,ek,en,ep,rs,rv,pr,pn,bb,mb⟩:=branch_end (w:=w) (AZ.out.below e9 AZ.out.1) rfl (B3.out.trans (e9.mono B3.out.size)) hOS9 o9' NW.out.1 NW.out.2
    subst ek en;obtain ⟨Vz,hVz⟩:∃ Vz,V9.setCells W2.heap.size 0 (pgC (branchOf (p.keys++[key]++q.keys) (p.kids++q.kids)) yy).toList=Vz:=⟨_,rfl⟩;rw [hVz] at rs rv pr bb mb;clear hVz;obtain ⟨na,hna⟩:∃ na,(p.keys++[key]++q.keys).length=na:=⟨_,rfl⟩;obtain ⟨nb,hnb⟩:∃ nb,(p.kids++q.kids).length=nb:=⟨_,rfl⟩;rw [hna,hnb] at ep ⊢;rw [ep] at rs;have SN:=hid (show Vz.cell? ⟨w.heap.size,2,none⟩=some (.slice y.A2 p.keys.length y.c2)/\Vz.cell? ⟨w.heap.size,3,none⟩=some (.slice y.A3 p.kids.length y.c3)/\Vz.cell? ⟨W1.heap.size,2,none⟩=some (.slice z.A2 q.keys.length z.c2)/\Vz.cell? ⟨W1.heap.size,3,none⟩=some (.slice z.A3 q.kids.length z.c3) from by
     obtain ⟨s1,s2,s3,s4⟩:=hSR;exact ⟨(mb.cell (p:=⟨w.heap.size,2,none⟩) (World.block_lt_of_cell? _ _ s1) NQ.out.1).trans s1,(mb.cell (p:=⟨w.heap.size,3,none⟩) (World.block_lt_of_cell? _ _ s2) NQ.out.1).trans s2,(mb.cell (p:=⟨W1.heap.size,2,none⟩) (World.block_lt_of_cell? _ _ s3) NQ.out.2).trans s3,(mb.cell (p:=⟨W1.heap.size,3,none⟩) (World.block_lt_of_cell? _ _ s4) NQ.out.2).trans s4⟩)
    have RS:=hid rs;have RV:=hid rv;have FIN:=hid (show PgRows _ _ yy/\Page.New _ yy w.heap.size/\Below _ _ _ from ⟨pr,pn.mono (Nat.le_trans NW.out.1 (Nat.le_of_lt NW.out.2)),bb⟩);clear ep rs rv pr pn bb mb hna hnb;refine Gen.tk 14 hSR ?_
    (try simp only [List.getElem_toArray]);(try simp only [List.getElem_cons_succ]);(try simp only [List.getElem_cons_zero]);(try simp only [Act.put]);(try simp only [List.setIfInBounds_toArray]);(try simp only [List.set_cons_succ]);(try simp only [List.set_cons_zero])
    refine wpAnyH_ready (rs:=[15]) (by kernel_rfl) (by simp) (AllReadyH.cons rfl (fun K hK=>?_) AllReadyH.nil);refine step_store_eq (by rfl) 82 (.tmp 6) (.tmp 31) (by rfl) (by rfl) (by rfl) RS.out ?_;refine hK.out _ _ SN.out (fun hSR=>?_);clear hK K;simp only [Act.put];refine wpAnyH_done (by kernel_rfl) ?_ _;clear hSR RS SN;go_wp2_with fail
    refine bodyPost_ret (results_c rfl rfl RV.out) rfl ?_;exact ⟨yy,rfl,FIN.out⟩
  ·go_simp
   have f11:=Pool.below_box V1 (.cells #[.slice y.A3 p.kids.length y.c3,.slice z.A3 q.kids.length z.c3] 68);have g11:=at_new V1 #[.slice y.A3 p.kids.length y.c3,.slice z.A3 q.kids.length z.c3] 68;have hK11:=g1.below f11 g1.1;have e11:=e1.trans (f11.mono e1.size);refine hK.out _ _ (HS.out _ e11) (fun hSR=>?_);clear hK K;obtain ⟨V11,hV11⟩:∃ V,V1.alloc (.cells #[.slice y.A3 p.kids.length y.c3,.slice z.A3 q.kids.length z.c3] 68)=V:=⟨_,rfl⟩
   rw [hV11] at f11 g11 e11 hSR hK11 ⊢;clear hV11;refine wpAnyH_ready (rs:=[6]) (by kernel_rfl) (by simp) (AllReadyH.cons rfl (fun K hK=>?_) AllReadyH.nil);go_simp
   have f12:=Pool.below_box V11 (.cells #[.slice y.A2 p.keys.length y.c2,.slice (some ⟨V0.heap.size,0,none⟩) 1 1,.slice z.A2 q.keys.length z.c2] 57);have g12:=at_new V11 #[.slice y.A2 p.keys.length y.c2,.slice (some ⟨V0.heap.size,0,none⟩) 1 1,.slice z.A2 q.keys.length z.c2] 57;have hK12:=hK11.below f12 hK11.1;have hC212:=g11.below f12 g11.1;have e12:=e11.trans (f12.mono e11.size);refine hK.out _ _ (HS.out _ e12) (fun hSR=>?_)
   clear hK K;obtain ⟨V12,hV12⟩:∃ V,V11.alloc (.cells #[.slice y.A2 p.keys.length y.c2,.slice (some ⟨V0.heap.size,0,none⟩) 1 1,.slice z.A2 q.keys.length z.c2] 57)=V:=⟨_,rfl⟩;rw [hV12] at f12 g12 e12 hSR hK12 hC212 ⊢;clear hV12;refine wpAnyH_ready (rs:=[7]) (by kernel_rfl) (by simp) (AllReadyH.cons rfl (fun K hK=>?_) AllReadyH.nil);go_simp
   have c13:=cat3s V12 g12 (RP.out _ e12).1 (l2:=[key]) ⟨rfl,fun e=>(by cases e),fun _=>⟨V0.heap.size,0,rfl,hK12.1,fun k hk=>(by obtain rfl:k=0:=(by simpa using hk);rw [show strV [key][0]=.string kb' from by rw [<- HKS.out];rfl];exact hK12.2.2 0 _ rfl)⟩⟩ (RP.out _ e12).2.1 (by have:=HL.out;omega);refine c13.mono ?_;rintro e V13 ⟨v13,rfl,o13,f13⟩;clear c13;have hK13:=hK12.below f13 hK12.1;have hC213:=hC212.below f13 hC212.1
   have hC313:=g12.below f13 g12.1;have o13':=own_low o13 e12.size;have e13:=e12.trans (f13.mono e12.size);refine hK.out _ _ (HS.out _ e13) (fun hSR=>?_);clear hK K;refine wpAnyH_ready (rs:=[13]) (by kernel_rfl) (by simp) (AllReadyH.cons rfl (fun K hK=>?_) AllReadyH.nil);go_simp
   have c14:=cat2i V13 hC213 (RP.out _ e13).2.2.1 (RP.out _ e13).2.2.2 (by have:=HL.out;omega);refine c14.mono ?_;rintro e V14 ⟨v14,rfl,o14,f14⟩;clear c14;have hK14:=hK13.below f14 hK13.1;have hC214:=hC213.below f14 hC213.1;have hC314:=hC313.below f14 hC313.1;have hOS14:=OwnG.kept o13' f14;have o14':=own_low o14 e13.size;have e14:=e13.trans (f14.mono e13.size);refine hK.out _ _ (HS.out _ e14) (fun hSR=>?_)
   clear hK K;obtain ⟨yy,ek,en,ep,rs,rv,pr,pn,bb,mb⟩:=branch_end (w:=w) (AZ.out.below e14 AZ.out.1) rfl (B3.out.trans (e14.mono B3.out.size)) hOS14 o14' NW.out.1 NW.out.2;subst ek en;obtain ⟨Vz,hVz⟩:∃ Vz,V14.setCells W2.heap.size 0 (pgC (branchOf (p.keys++[key]++q.keys) (p.kids++q.kids)) yy).toList=Vz:=⟨_,rfl⟩;rw [hVz] at rs rv pr bb mb;clear hVz;obtain ⟨na,hna⟩:∃ na,(p.keys++[key]++q.keys).length=na:=⟨_,rfl⟩
   obtain ⟨nb,hnb⟩:∃ nb,(p.kids++q.kids).length=nb:=⟨_,rfl⟩;rw [hna,hnb] at ep ⊢;rw [ep] at rs;have SN:=hid (show Vz.cell? ⟨w.heap.size,2,none⟩=some (.slice y.A2 p.keys.length y.c2)/\Vz.cell? ⟨w.heap.size,3,none⟩=some (.slice y.A3 p.kids.length y.c3)/\Vz.cell? ⟨W1.heap.size,2,none⟩=some (.slice z.A2 q.keys.length z.c2)/\Vz.cell? ⟨W1.heap.size,3,none⟩=some (.slice z.A3 q.kids.length z.c3) from by
    obtain ⟨s1,s2,s3,s4⟩:=hSR;exact ⟨(mb.cell (p:=⟨w.heap.size,2,none⟩) (World.block_lt_of_cell? _ _ s1) NQ.out.1).trans s1,(mb.cell (p:=⟨w.heap.size,3,none⟩) (World.block_lt_of_cell? _ _ s2) NQ.out.1).trans s2,(mb.cell (p:=⟨W1.heap.size,2,none⟩) (World.block_lt_of_cell? _ _ s3) NQ.out.2).trans s3,(mb.cell (p:=⟨W1.heap.size,3,none⟩) (World.block_lt_of_cell? _ _ s4) NQ.out.2).trans s4⟩)
   have RS:=hid rs;have RV:=hid rv;have FIN:=hid (show PgRows _ _ yy/\Page.New _ yy w.heap.size/\Below _ _ _ from ⟨pr,pn.mono (Nat.le_trans NW.out.1 (Nat.le_of_lt NW.out.2)),bb⟩);clear ep rs rv pr pn bb mb hna hnb;refine Gen.tk 14 hSR ?_
   (try simp only [List.getElem_toArray]);(try simp only [List.getElem_cons_succ]);(try simp only [List.getElem_cons_zero]);(try simp only [Act.put]);(try simp only [List.setIfInBounds_toArray]);(try simp only [List.set_cons_succ]);(try simp only [List.set_cons_zero])
   refine wpAnyH_ready (rs:=[15]) (by kernel_rfl) (by simp) (AllReadyH.cons rfl (fun K hK=>?_) AllReadyH.nil);refine step_store_eq (by rfl) 82 (.tmp 6) (.tmp 31) (by rfl) (by rfl) (by rfl) RS.out ?_;refine hK.out _ _ SN.out (fun hSR=>?_);clear hK K;simp only [Act.put];refine wpAnyH_done (by kernel_rfl) ?_ _;clear hSR RS SN;go_wp2_with fail
   refine bodyPost_ret (results_c rfl rfl RV.out) rfl ?_;exact ⟨yy,rfl,FIN.out⟩
 ·go_simp
  have f16:=Pool.below_box V0 (.cells #[.slice y.A3 p.kids.length y.c3,.slice z.A3 q.kids.length z.c3] 68);have g16:=at_new V0 #[.slice y.A3 p.kids.length y.c3,.slice z.A3 q.kids.length z.c3] 68;have e16:=e0.trans (f16.mono e0.size);refine hK.out _ _ (HS.out _ e16) (fun hSR=>?_);clear hK K;obtain ⟨V16,hV16⟩:∃ V,V0.alloc (.cells #[.slice y.A3 p.kids.length y.c3,.slice z.A3 q.kids.length z.c3] 68)=V:=⟨_,rfl⟩
  rw [hV16] at f16 g16 e16 hSR ⊢;clear hV16;refine wpAnyH_ready (rs:=[3]) (by kernel_rfl) (by simp) (AllReadyH.cons rfl (fun K hK=>?_) AllReadyH.nil);go_simp
  have f17:=Pool.below_box V16 (.cells #[.string kb'] 9);have g17:=at_new V16 #[.string kb'] 9;have hC217:=g16.below f17 g16.1;have e17:=e16.trans (f17.mono e16.size);refine hK.out _ _ (HS.out _ e17) (fun hSR=>?_);clear hK K;obtain ⟨V17,hV17⟩:∃ V,V16.alloc (.cells #[.string kb'] 9)=V:=⟨_,rfl⟩;rw [hV17] at f17 g17 e17 hSR hC217 ⊢;clear hV17;refine wpAnyH_ready (rs:=[6]) (by kernel_rfl) (by simp) (AllReadyH.cons rfl (fun K hK=>?_) AllReadyH.nil)
  go_simp
  have f18:=Pool.below_box V17 (.cells #[.slice y.A2 p.keys.length y.c2,.slice (some ⟨V16.heap.size,0,none⟩) 1 1,.slice z.A2 q.keys.length z.c2] 57);have g18:=at_new V17 #[.slice y.A2 p.keys.length y.c2,.slice (some ⟨V16.heap.size,0,none⟩) 1 1,.slice z.A2 q.keys.length z.c2] 57;have hC218:=hC217.below f18 hC217.1;have hK18:=g17.below f18 g17.1;have e18:=e17.trans (f18.mono e17.size);refine hK.out _ _ (HS.out _ e18) (fun hSR=>?_)
  clear hK K;obtain ⟨V18,hV18⟩:∃ V,V17.alloc (.cells #[.slice y.A2 p.keys.length y.c2,.slice (some ⟨V16.heap.size,0,none⟩) 1 1,.slice z.A2 q.keys.length z.c2] 57)=V:=⟨_,rfl⟩;rw [hV18] at f18 g18 e18 hSR hC218 hK18 ⊢;clear hV18;refine wpAnyH_ready (rs:=[7]) (by kernel_rfl) (by simp) (AllReadyH.cons rfl (fun K hK=>?_) AllReadyH.nil);go_simp
  have c19:=cat3s V18 g18 (RP.out _ e18).1 (l2:=[key]) ⟨rfl,fun e=>(by cases e),fun _=>⟨V16.heap.size,0,rfl,hK18.1,fun k hk=>(by obtain rfl:k=0:=(by simpa using hk);rw [show strV [key][0]=.string kb' from by rw [<- HKS.out];rfl];exact hK18.2.2 0 _ rfl)⟩⟩ (RP.out _ e18).2.1 (by have:=HL.out;omega);refine c19.mono ?_;rintro e V19 ⟨v19,rfl,o19,f19⟩;clear c19;have hC219:=hC218.below f19 hC218.1;have hK19:=hK18.below f19 hK18.1
  have hC319:=g18.below f19 g18.1;have o19':=own_low o19 e18.size;have e19:=e18.trans (f19.mono e18.size);refine hK.out _ _ (HS.out _ e19) (fun hSR=>?_);clear hK K;refine wpAnyH_ready (rs:=[13]) (by kernel_rfl) (by simp) (AllReadyH.cons rfl (fun K hK=>?_) AllReadyH.nil);go_simp
  have c20:=cat2i V19 hC219 (RP.out _ e19).2.2.1 (RP.out _ e19).2.2.2 (by have:=HL.out;omega);refine c20.mono ?_;rintro e V20 ⟨v20,rfl,o20,f20⟩;clear c20;have hC220:=hC219.below f20 hC219.1;have hK20:=hK19.below f20 hK19.1;have hC320:=hC319.below f20 hC319.1;have hOS20:=OwnG.kept o19' f20;have o20':=own_low o20 e19.size;have e20:=e19.trans (f20.mono e19.size);refine hK.out _ _ (HS.out _ e20) (fun hSR=>?_)
  clear hK K;obtain ⟨yy,ek,en,ep,rs,rv,pr,pn,bb,mb⟩:=branch_end (w:=w) (AZ.out.below e20 AZ.out.1) rfl (B3.out.trans (e20.mono B3.out.size)) hOS20 o20' NW.out.1 NW.out.2;subst ek en;obtain ⟨Vz,hVz⟩:∃ Vz,V20.setCells W2.heap.size 0 (pgC (branchOf (p.keys++[key]++q.keys) (p.kids++q.kids)) yy).toList=Vz:=⟨_,rfl⟩;rw [hVz] at rs rv pr bb mb;clear hVz;obtain ⟨na,hna⟩:∃ na,(p.keys++[key]++q.keys).length=na:=⟨_,rfl⟩
  obtain ⟨nb,hnb⟩:∃ nb,(p.kids++q.kids).length=nb:=⟨_,rfl⟩;rw [hna,hnb] at ep ⊢;rw [ep] at rs;have SN:=hid (show Vz.cell? ⟨w.heap.size,2,none⟩=some (.slice y.A2 p.keys.length y.c2)/\Vz.cell? ⟨w.heap.size,3,none⟩=some (.slice y.A3 p.kids.length y.c3)/\Vz.cell? ⟨W1.heap.size,2,none⟩=some (.slice z.A2 q.keys.length z.c2)/\Vz.cell? ⟨W1.heap.size,3,none⟩=some (.slice z.A3 q.kids.length z.c3) from by
   obtain ⟨s1,s2,s3,s4⟩:=hSR;exact ⟨(mb.cell (p:=⟨w.heap.size,2,none⟩) (World.block_lt_of_cell? _ _ s1) NQ.out.1).trans s1,(mb.cell (p:=⟨w.heap.size,3,none⟩) (World.block_lt_of_cell? _ _ s2) NQ.out.1).trans s2,(mb.cell (p:=⟨W1.heap.size,2,none⟩) (World.block_lt_of_cell? _ _ s3) NQ.out.2).trans s3,(mb.cell (p:=⟨W1.heap.size,3,none⟩) (World.block_lt_of_cell? _ _ s4) NQ.out.2).trans s4⟩)
  have RS:=hid rs;have RV:=hid rv;have FIN:=hid (show PgRows _ _ yy/\Page.New _ yy w.heap.size/\Below _ _ _ from ⟨pr,pn.mono (Nat.le_trans NW.out.1 (Nat.le_of_lt NW.out.2)),bb⟩);clear ep rs rv pr pn bb mb hna hnb;refine Gen.tk 14 hSR ?_
  (try simp only [List.getElem_toArray]);(try simp only [List.getElem_cons_succ]);(try simp only [List.getElem_cons_zero]);(try simp only [Act.put]);(try simp only [List.setIfInBounds_toArray]);(try simp only [List.set_cons_succ]);(try simp only [List.set_cons_zero])
  refine wpAnyH_ready (rs:=[15]) (by kernel_rfl) (by simp) (AllReadyH.cons rfl (fun K hK=>?_) AllReadyH.nil);refine step_store_eq (by rfl) 82 (.tmp 6) (.tmp 31) (by rfl) (by rfl) (by rfl) RS.out ?_;refine hK.out _ _ SN.out (fun hSR=>?_);clear hK K;simp only [Act.put];refine wpAnyH_done (by kernel_rfl) ?_ _;clear hSR RS SN;go_wp2_with fail
  refine bodyPost_ret (results_c rfl rfl RV.out) rfl ?_;exact ⟨yy,rfl,FIN.out⟩
structure Treed (p:Pg):Prop where
 kind:p.kind=1\/p.kind=2
 len:p.pairs.length<=400/\p.keys.length<=400
 kids:p.kind=2->p.kids.length=p.keys.length+1
 none_:p.kind=1->p.kids=[]
theorem Treed.kl {p:Pg} (h:Treed p):p.kids.length<=401:=by
 rcases h.kind with hk | hk
 ·rw [h.none_ hk];exact Nat.zero_le _
 ·rw [h.kids hk];have:=h.len.2;omega
theorem Treed.wide {p:Pg} {y:Lay} {n:Nat} (h:Treed p) (hn:Page.New p y n):Wide p y :=
 ⟨h.kind,⟨by have:=h.len.1;omega,by have:=h.len.2;omega,by have:=h.kl;omega⟩,h.kids,hn.k1,hn.k2,hn.k3⟩
theorem crown_wide {w0 w:World} {B:Blk} {tb:Nat} {d:St} {t:T} {r dp c:Int} (h:TrOn w0 w B tb d t r dp c) (n:Int) (hn:I64 n) (N:Int) (hN:0<=N/\N<=1000) (b:Pg) (y:Lay) (hr:PgRows w b y) {n1:Nat} (hnw:Page.New b y n1) (hlow:∀ k∈tall tb B,k<n1) (hok:PgOk b) (hT:Treed b) :
 Calls Tryz.prog 118 #[ptr tb,.int .i64 n,.int .i64 N,pgV b y] w (ClimbR (CRel n N r dp b d t) w0 B tb c w):=by
 have hap:=new_off hnw hlow
 by_cases h0:fillP b=0
 ·refine (crown_low h n hn N hN b y hr hap (fun hk e=>by have:=hT.kids hk;rw [e] at this;simp at this) h0).mono ?_;rintro e w' ⟨rfl,m,h1,h2⟩
  by_cases hx:(dropT t n).2=0
  ·exact ⟨d,_,_,_,_,rfl,.inl ⟨h0,rfl,rfl,rfl,.inl ⟨hx,rfl,rfl⟩⟩,h2 hx,m⟩
  ·exact ⟨d,_,r,dp,_,rfl,.inl ⟨h0,rfl,rfl,rfl,.inr ⟨hx,rfl,rfl⟩⟩,h1 hx,m⟩
 ·refine (crown_any h n N hN b y h0 (R:=SpreadR d t b [n]) (fun d' t' ks ns hs=>spread_len hs) (fun W g hg hb hc hlt=>?_)).mono ?_
  ·refine spread_any (h.quiet hb) b y hok (hr.below hb) (hT.wide hnw) hnw hlow (one_nat hc hlt) (fun x e hx=>?_) (fun x hx=>by rw [List.mem_singleton] at hx;rw [hx];exact hn) (by omega);cases e;exact tall_new h hg hx
  ·rintro e w' ⟨d',t',r',dp',x,rfl,hR,H,m⟩;exact ⟨d',t',r',dp',x,rfl,.inr ⟨h0,hR⟩,H,m⟩
def joinP (p:Pg) (k:Disk.Bs) (q:Pg):Pg:=if p.kind=1 then leafOf (p.pairs++q.pairs) else branchOf (p.keys++[k]++q.keys) (p.kids++q.kids)
theorem joined_any {w:World} {p q:Pg} {y z:Lay} {n m:Nat} (hp:Treed p) (hq:Treed q) (hr:PgRows w p y) (hs:PgRows w q z) (hn:Page.New p y n) (hm:Page.New q z m) (key:Disk.Bs) :
 Calls Tryz.prog 142 #[pgV p y,strV key,pgV q z] w (fun e w'=>∃ yy,e=.returned (pgV (joinP p key q) yy)/\PgRows w' (joinP p key q) yy/\Page.New (joinP p key q) yy w.heap.size/\Below w.heap.size w w'):=by
 have h1:=hp.len;have h2:=hq.len;have h3:=hp.kl;have h4:=hq.kl;rcases hp.kind with hk | hk
 ·have e:joinP p key q=leafOf (p.pairs++q.pairs):=if_pos hk;rw [e];refine (joined_leaf hk hr hs hn hm (by omega) (strV key)).mono ?_;rintro e w' ⟨A,c,rfl,a1,a2,a3⟩;exact ⟨_,rfl,a1,a2,a3⟩
 ·have e:joinP p key q=branchOf (p.keys++[key]++q.keys) (p.kids++q.kids):=if_neg (by omega);rw [e];exact joined_branch hk hr hs hn hm ⟨by omega,by omega⟩ key
theorem join_ok {p q:Pg} {k:Disk.Bs} (hp:Treed p) (hq:Treed q):PgOk (joinP p k q):=by
 have h1:=hp.len;have h2:=hq.len;have h3:=hp.kl;have h4:=hq.kl;unfold joinP
 split
 ·exact ⟨⟨by show _<=(1:Int);omega,by show (1:Int)<=_;omega⟩,by show (p.pairs++q.pairs).length<=_;simp;omega,Nat.zero_le _,Nat.zero_le _,Nat.zero_le _,none_ok.next,by show 0<18446744073709551616;omega,none_ok.root,none_ok.depth,none_ok.count,none_ok.high⟩
 ·exact branch_ok (by simp;omega) (by simp;omega)
theorem join_wide {p q:Pg} {k:Disk.Bs} {y:Lay} {n:Nat} (hp:Treed p) (hq:Treed q) (hkk:q.kind=p.kind) (hn:Page.New (joinP p k q) y n):Wide (joinP p k q) y:=by
 have h1:=hp.len;have h2:=hq.len;have h3:=hp.kl;have h4:=hq.kl;refine ⟨?_,?_,?_,hn.k1,hn.k2,hn.k3⟩ <;> unfold joinP <;> split
 ·exact .inl rfl
 ·exact .inr rfl
 ·exact ⟨by show (p.pairs++q.pairs).length<=_;simp;omega,Nat.zero_le _,Nat.zero_le _⟩
 ·exact ⟨Nat.zero_le _,by show (p.keys++[k]++q.keys).length<=_;simp;omega,by show (p.kids++q.kids).length<=_;simp;omega⟩
 ·exact fun e=>absurd e (show ¬ (1:Int)=2 by decide)
 ·rename_i hk
  intro _;have e1:=hp.kids (by rcases hp.kind with h | h <;> omega);have e2:=hq.kids (by rw [hkk];rcases hp.kind with h | h <;> omega);show (p.kids++q.kids).length=(p.keys++[k]++q.keys).length+1;simp;omega
def setIn (s:Stp) (f l:Nat) (ks:List Disk.Bs) (ns:List Int):Pg:=branchOf (s.p.keys.take f++ks++s.p.keys.drop l) (s.p.kids.take f++ns++s.p.kids.drop (l+1))
abbrev noPg:Pg:={kind:=0}
def PutT (s:Stp) (pp:Pg) (f l:Nat) (d:St) (t:T) (d':St) (t':T) (b:Pg) (x:Int):Prop:=∃ ks ns,SpreadR d t pp ((s.p.kids.take (l+1)).drop f) d' t' ks ns x/\((x≠0/\b=noPg)\/(x=0/\b=setIn s f l ks ns))
def PutR (s:Stp) (p:Pg) (d:St) (t:T) (d':St) (t':T) (b:Pg) (x:Int):Prop :=
 (leastP p<=fillP p/\PutT s p s.kid.toNat s.kid.toNat d t d' t' b x) \/
 (fillP p<leastP p /\
   ((d'=d/\t'=t/\b=noPg/\x=tellE d (s.p.kids[s.kid.toNat-1+(s.kid.toNat-1+1)-s.kid.toNat]?.getD 0)/\(d.readE (s.p.kids[s.kid.toNat-1+(s.kid.toNat-1+1)-s.kid.toNat]?.getD 0)=0->∀ q,IsDec (s.p.kids[s.kid.toNat-1+(s.kid.toNat-1+1)-s.kid.toNat]?.getD 0) (d.readB (s.p.kids[s.kid.toNat-1+(s.kid.toNat-1+1)-s.kid.toNat]?.getD 0)) q->q.kind≠p.kind)) \/
    ∃ q,PgAt d (s.p.kids[s.kid.toNat-1+(s.kid.toNat-1+1)-s.kid.toNat]?.getD 0) p.kind q /\
     PutT s (if s.kid.toNat=s.kid.toNat-1 then joinP p (s.p.keys[s.kid.toNat-1]?.getD []) q else joinP q (s.p.keys[s.kid.toNat-1]?.getD []) p) (s.kid.toNat-1) (s.kid.toNat-1+1) d t d' t' b x))
open Page (Pg Lay less Enc IsDec Lt Rises)
theorem rises_lt:∀ {l:List Disk.Bs} (_:Rises Lt l) {i j:Nat} (_:i<j) (hj:j<l.length),less (l[i]'(by omega)) l[j]=true
 | [],_,_,_,_,hj=>by simp at hj
 | a :: r,h,0,j+1,_,hj=>(rises_cons h).2 j (by simpa using hj)
 | a :: r,h,i+1,j+1,hij,hj=>rises_lt (rises_cons h).1 (i:=i) (j:=j) (by omega) (by simpa using hj)
 | a :: r,_,i,0,hij,_=>by omega
theorem side_iff {ks:List Disk.Bs} (h:Rises Lt ks) (key:Disk.Bs) (i:Nat) (hi:i<ks.length):i<sideOf ks key↔less key ks[i]=false:=by
 have hp:=pos_iff h key i hi
 constructor
 ·intro g
  by_cases g1:i<posOf ks key
  ·exact less_asymm (hp.2 g1)
  ·unfold sideOf at g
   split at g
   ·rename_i hh
    obtain ⟨h1,h2⟩:=(has_iff ks key).1 hh;have e:i=posOf ks key:=by omega
    subst e;rw [h2];exact less_irrefl key
   ·exact absurd g g1
 ·intro g
  by_cases g1:i<posOf ks key
  ·unfold sideOf;split <;> omega
  ·have g2:less ks[i] key=false:=by
    rcases Bool.eq_false_or_eq_true (less ks[i] key) with e | e
    ·exact absurd (hp.1 e) g1
    ·exact e
   by_cases e:ks[i]=key
   ·have hm:hasOf ks key=true:=(has_mem h key).2 (e ▸ List.getElem_mem hi);obtain ⟨h1,h2⟩:=(has_iff ks key).1 hm;unfold sideOf;rw [if_pos hm];rcases Nat.lt_or_ge (posOf ks key) i with hlt | hge
    ·have:=rises_lt h hlt hi;rw [h2,e,less_irrefl] at this;exact absurd this (by decide)
    ·omega
   ·have:=less_tri g2 e;rw [g] at this;exact absurd this (by decide)
theorem between_side {ks:List Disk.Bs} {L:List Held} (h:Rises Lt ks) (hl:L.length=ks.length+1) (hb:Between ks L) {key val:Disk.Bs} {j:Nat} {y:Held} (hy:L[j]?=some y) (hm:(key,val)∈y.1):j=sideOf ks key:=by
 have hj:j<L.length:=(List.getElem?_eq_some_iff.1 hy).1;have hs:=side_le ks key;rcases Nat.lt_trichotomy j (sideOf ks key) with g | g | g
 ·have hi:j<ks.length:=by omega
  have h1:=(hb j hi).1 (key,val) (by rw [hy];exact hm);have h2:=(side_iff h key j hi).1 g;have h3:less key ks[j]=true:=h1;rw [h2] at h3;exact absurd h3 (by decide)
 ·exact g
 ·obtain ⟨i,rfl⟩:∃ i,j=i+1:=⟨j-1,by omega⟩;have hi:i<ks.length:=by omega
  have h1:=(hb i hi).2 (key,val) (by rw [hy];exact hm);have h2:less key ks[i]=false:=by
   rcases Bool.eq_false_or_eq_true (less key ks[i]) with e | e
   ·exact absurd e h1
   ·exact e
  have:=(side_iff h key i hi).2 h2;omega
theorem down_isT {d:St} {key:Disk.Bs} {r a:Int} {l:List Stp} (h:Down d key r l a) {m:Nat} {x:Held} (hx:IsT d (m+1) r x):l.length<=m->∃ y,IsT d (m-l.length+1) a y/\(∀ val,(key,val)∈x.1↔(key,val)∈y.1)/\∀ k∈y.2,k∈x.2:=by
 induction h with
 | nil=>exact fun _=>⟨x,hx,fun _=>Iff.rfl,fun _ hk=>hk⟩
 | @snoc a l s h ha hp hk hi ih =>
  intro hm;rw [List.length_append,List.length_singleton] at hm ⊢;obtain ⟨y,hy,h1,h2⟩:=ih (by omega);obtain ⟨q,hq⟩:∃ q,m-l.length=q+1:=⟨m-l.length-1,by omega⟩;rw [hq] at hy;obtain ⟨p,L,hpp,hl,hkk,hb,e⟩:=hy;obtain rfl:=Page.dec_fun hpp.2.1 hp.2.1;obtain ⟨g1,-⟩:=(Page.fine2 hp.2.2).1 (fine_of hp);have hL:sideOf s.p.keys key<L.length:=by omega
  have hz:=List.getElem?_eq_getElem hL;refine ⟨L[sideOf s.p.keys key],?_,fun val=>(h1 val).trans ?_,fun k hk'=>h2 k ?_⟩
  ·rw [show m-(l.length+1)=q by omega];exact (hkk _ _ _ (List.getElem?_eq_getElem hi) hz).1
  ·rw [e]
   constructor
   ·intro hm';obtain ⟨w,hw,hwm⟩:=List.mem_flatMap.1 hm';obtain ⟨j,hj⟩:=List.mem_iff_getElem?.1 hw;have:=between_side g1.rises (by rw [hl,g1.kids]) hb hj hwm;subst this;rw [hz] at hj;cases hj;exact hwm
   ·exact fun hm'=>List.mem_flatMap.2 ⟨_,List.getElem_mem hL,hm'⟩
  ·rw [e];exact List.mem_cons_of_mem _ (List.mem_flatMap.2 ⟨_,List.getElem_mem hL,hk'⟩)
theorem way_isT_ok {d:St} {key:Disk.Bs} {r:Int} {m:Nat} {x:Held} (hx:IsT d (m+1) r x) {e:Int}:¬ WayQ d key r (m+1) e:=by
 rintro ⟨l,a,hd,hl,hno,-⟩;obtain ⟨y,hy,-,-⟩:=down_isT hd hx (by omega)
 by_cases hm:l.length=m
 ·rw [show m-l.length+1=1 by omega] at hy;obtain ⟨p,hpp,-⟩:=hy;exact hno hpp.1 p hpp.2.1 (by rw [if_pos (by omega)];exact hpp.2.2)
 ·obtain ⟨q,hq⟩:∃ q,m-l.length=q+1:=⟨m-l.length-1,by omega⟩;rw [hq] at hy;obtain ⟨p,L,hpp,-⟩:=hy;exact hno hpp.1 p hpp.2.1 (by rw [if_neg (by omega)];exact hpp.2.2)
def VT (d:St):Nat->Pg->Held->Prop
 | 0,_,_=>False
 | 1,p,y=>p.kind=1/\y=(p.pairs,[])
 | m+2,p,y=>p.kind=2/\p.kids.length=p.keys.length+1/\∃ L:List Held,L.length=p.kids.length/\(∀ (i:Nat) (n:Int) (z:Held),p.kids[i]?=some n->L[i]?=some z->IsT d (m+1) n z/\Stout d n)/\Between p.keys L/\y=(L.flatMap (·.1),L.flatMap (·.2))
theorem VT.kind {d:St}:∀ {m:Nat} {p:Pg} {y:Held},VT d m p y->p.kind=if m=1 then 1 else 2
 | 0,_,_,h=>h.elim
 | 1,_,_,h=>h.1
 | m+2,_,_,h=>by rw [if_neg (by omega)];exact h.1
theorem isT_iff {d:St}:∀ {m:Nat} {a:Int} {x:Held},IsT d m a x↔∃ p y,PgAt d a (if m=1 then 1 else 2) p/\VT d m p y/\x=(y.1,a :: y.2)
 | 0,_,_=>⟨fun h=>h.elim,fun ⟨_,_,_,h,_⟩=>h.elim⟩
 | 1,a,x=>⟨fun ⟨p,hp,e⟩=>⟨p,(p.pairs,[]),hp,⟨hp.2.2,rfl⟩,e⟩,fun ⟨p,y,hp,⟨_,hy⟩,e⟩=>⟨p,hp,by rw [e,hy]⟩⟩
 | m+2,a,x=>by
  rw [if_neg (by omega)]
  constructor
  ·rintro ⟨p,L,hp,hl,hk,hb,e⟩;obtain ⟨g1,-⟩:=(Page.fine2 hp.2.2).1 (fine_of hp);exact ⟨p,(L.flatMap (·.1),L.flatMap (·.2)),hp,⟨hp.2.2,g1.kids,L,hl,hk,hb,rfl⟩,e⟩
  ·rintro ⟨p,y,hp,⟨_,_,L,hl,hk,hb,rfl⟩,e⟩;exact ⟨p,L,hp,hl,hk,hb,e⟩
theorem VT.keep {d d':St} (hc:Store.Calm d) (hc':Store.Calm d') (hn:d'.n=d.n):∀ {m:Nat} {p:Pg} {y:Held},VT d m p y->(∀ k∈y.2,d'.get k=d.get k)->VT d' m p y
 | 0,_,_,h,_=>h.elim
 | 1,_,_,h,_=>h
 | m+2,_,_,⟨h1,h2,L,hl,hk,hb,e⟩,hg=>⟨h1,h2,L,hl,fun i n z hi hz=>(by
  have g:∀ k∈z.2,d'.get k=d.get k:=fun k hk'=>hg k (by
   rw [e];exact List.mem_flatMap.2 ⟨z,List.mem_of_getElem? hz,hk'⟩)
  exact ⟨(hk i n z hi hz).1.keep hc hc' hn g,(hk i n z hi hz).2.keep hc hc' hn (g n (isT_mem (hk i n z hi hz).1))⟩),hb,e⟩
theorem VT.same {d:St} {m:Nat} {p q:Pg} {y:Held} (h:VT d (m+2) p y) (h0:q.kind=2) (h1:q.keys=p.keys) (h2:q.kids=p.kids):VT d (m+2) q y:=by
 obtain ⟨-,g2,g3⟩:=h;rw [<- h1,<- h2] at g2;refine ⟨h0,g2,?_⟩;rw [h1,h2];exact g3
theorem less_le {x y:Disk.Bs} (h:less x y=true):¬ Lt y x:=fun g=>by
 have h1:less y x=true:=g;rw [less_asymm h] at h1;exact absurd h1 (by decide)
theorem less_le_trans {x y z:Disk.Bs} (h:¬ Lt x y) (g:less z y=true):¬ Lt x z:=fun h1=>h (less_trans (show less x z=true from h1) g)
theorem vt_halves {d:St}:∀ {m:Nat} {p:Pg} {y:Held},VT d m p y->mostP p<fillP p->(m=1->Rises Lt (p.pairs.map (·.1)))->(m≠1->Rises Lt p.keys) ->
 ∃ y1 y2,VT d m (leftP p) y1/\VT d m (rightP p) y2/\y.1=y1.1++y2.1/\y.2=y1.2++y2.2/\(∀ e∈y1.1,Lt e.1 (midK p))/\∀ e∈y2.1,¬ Lt e.1 (midK p)
 | 0,_,_,h,_,_,_=>h.elim
 | 1,p,y,⟨hk,hy⟩,hf,hs,_=>by
  have hs:=hs rfl;unfold mostP fillP at hf;rw [if_pos hk,if_pos hk] at hf;have hm:midP p<p.pairs.length:=by unfold midP;rw [if_pos hk];omega
  have eK:midK p=(p.pairs[midP p]).1:=by unfold midK;rw [if_pos hk,List.getElem?_eq_getElem hm];rfl
  have eL:leftP p={kind:=1,pairs:=p.pairs.take (midP p)}:=if_pos hk;have eR:rightP p={kind:=1,pairs:=p.pairs.drop (midP p)}:=if_pos hk;rw [eK,eL,eR,hy];refine ⟨(p.pairs.take (midP p),[]),(p.pairs.drop (midP p),[]),⟨rfl,rfl⟩,⟨rfl,rfl⟩,(List.take_append_drop _ _).symm,rfl,fun e he=>?_,fun e he=>?_⟩
  ·obtain ⟨i,hi,rfl⟩:=List.mem_iff_getElem.1 he;rw [List.length_take] at hi;have:=rises_lt hs (i:=i) (j:=midP p) (by omega) (by simpa using hm);rw [List.getElem_take];show less _ _=true
   simpa using this
  ·obtain ⟨i,hi,rfl⟩:=List.mem_iff_getElem.1 he;rw [List.length_drop] at hi;rw [List.getElem_drop];rcases Nat.eq_zero_or_pos i with rfl | h0
   ·intro g;have g1:less (p.pairs[midP p]).1 (p.pairs[midP p]).1=true:=g;rw [less_irrefl] at g1;exact absurd g1 (by decide)
   ·refine less_le ?_;have:=rises_lt hs (i:=midP p) (j:=midP p+i) (by omega) (by simp;omega)
    simpa using this
 | m+2,p,y,⟨hk,hkk,L,hl,hL,hb,hy⟩,hf,_,hs=>by
  have hs:=hs (by omega);have hk1:¬ p.kind=1:=by rw [hk];decide
  unfold mostP fillP at hf;rw [if_neg hk1,if_neg hk1] at hf;have eM:midP p=p.keys.length / 2:=if_neg hk1;have hm:midP p<p.keys.length:=by omega
  have eK:midK p=p.keys[midP p]:=by unfold midK;rw [if_neg hk1,List.getElem?_eq_getElem hm];rfl
  have eL:leftP p={kind:=p.kind,keys:=p.keys.take (midP p),kids:=p.kids.take (midP p+1)}:=if_neg hk1;have eR:rightP p={kind:=p.kind,keys:=p.keys.drop (midP p+1),kids:=p.kids.drop (midP p+1)}:=if_neg hk1;rw [eK,eL,eR,hy];generalize midP p=q at *;have hsplit:=List.take_append_drop (q+1) L;refine ⟨((L.take (q+1)).flatMap (·.1),(L.take (q+1)).flatMap (·.2)),((L.drop (q+1)).flatMap (·.1),(L.drop (q+1)).flatMap (·.2)),
   ⟨hk,by simp;omega,L.take (q+1),by simp;omega,fun i n z hi hz=>?_,fun i hi=>?_,rfl⟩,
   ⟨hk,by simp;omega,L.drop (q+1),by simp;omega,fun i n z hi hz=>?_,fun i hi=>?_,rfl⟩,
   by rw [<- List.flatMap_append,hsplit],by rw [<- List.flatMap_append,hsplit],fun e he=>?_,fun e he=>?_⟩
  ·have hi':i<q+1:=by
    rcases Nat.lt_or_ge i (q+1) with g | g
    ·exact g
    ·rw [List.getElem?_take,if_neg (by omega)] at hi;cases hi
   rw [List.getElem?_take,if_pos hi'] at hi hz;exact hL i n z hi hz
  ·rw [List.length_take] at hi;have:=hb i (by omega);rw [List.getElem?_take,if_pos (by omega),List.getElem?_take,if_pos (by omega),List.getElem_take];exact this
  ·rw [List.getElem?_drop] at hi hz;exact hL _ n z hi hz
  ·rw [List.length_drop] at hi;have:=hb (q+1+i) (by omega);rw [List.getElem?_drop,List.getElem?_drop,List.getElem_drop];exact this
  ·obtain ⟨z,hz,hez⟩:=List.mem_flatMap.1 he;obtain ⟨i,hi⟩:=List.mem_iff_getElem?.1 hz;have hi':i<q+1:=by
    rcases Nat.lt_or_ge i (q+1) with g | g
    ·exact g
    ·rw [List.getElem?_take,if_neg (by omega)] at hi;cases hi
   rw [List.getElem?_take,if_pos hi'] at hi;have h1:Lt e.1 (p.keys[i]'(by omega)):=(hb i (by omega)).1 e (by rw [hi];exact hez);rcases Nat.lt_or_ge i q with g | g
   ·exact less_trans (show less e.1 _=true from h1) (rises_lt hs g hm)
   ·obtain rfl:i=q:=by omega
    exact h1
  ·obtain ⟨z,hz,hez⟩:=List.mem_flatMap.1 he;obtain ⟨i,hi⟩:=List.mem_iff_getElem?.1 hz;rw [List.getElem?_drop] at hi;have hlt:q+1+i<L.length:=(List.getElem?_eq_some_iff.1 hi).1;have h1:¬ Lt e.1 (p.keys[q+i]'(by omega)):=(hb (q+i) (by omega)).2 e (by rw [show q+i+1=q+1+i by omega,hi];exact hez);rcases Nat.eq_zero_or_pos i with rfl | h0
   ·exact h1
   ·exact less_le_trans h1 (rises_lt hs (i:=q) (j:=q+i) (by omega) (by omega))
theorem vt_join {d:St}:∀ {m:Nat} {p q:Pg} {y z:Held} {k:Disk.Bs},VT d m p y->VT d m q z->(∀ e∈y.1,Lt e.1 k)->(∀ e∈z.1,¬ Lt e.1 k)->VT d m (joinP p k q) (y.1++z.1,y.2++z.2)
 | 0,_,_,_,_,_,h,_,_,_=>h.elim
 | 1,p,q,y,z,k,⟨hk,hy⟩,⟨_,hz⟩,_,_=>by
  have e:joinP p k q=leafOf (p.pairs++q.pairs):=if_pos hk;rw [e,hy,hz];exact ⟨rfl,rfl⟩
 | m+2,p,q,y,z,k,⟨hk,hpk,L,hl,hL,hb,hy⟩,⟨_,hqk,M,hl',hM,hb',hz⟩,h1,h2=>by
  have e:joinP p k q=branchOf (p.keys++[k]++q.keys) (p.kids++q.kids):=if_neg (by rw [hk];decide);rw [e,hy,hz];refine ⟨rfl,by simp;omega,L++M,by simp;omega,fun i n x hi hx=>?_,fun i hi=>?_,by simp⟩
  ·have hi:(p.kids++q.kids)[i]?=some n:=hi;rcases Nat.lt_or_ge i L.length with g | g
   ·rw [List.getElem?_append_left (by omega)] at hi;rw [List.getElem?_append_left g] at hx;exact hL i n x hi hx
   ·rw [List.getElem?_append_right (by omega)] at hi;rw [List.getElem?_append_right g,hl] at hx;exact hM _ n x hi hx
  ·have hi:i<(p.keys++[k]++q.keys).length:=hi;show (∀ e∈((L++M)[i]?.getD ([],[])).1,Lt e.1 (p.keys++[k]++q.keys)[i])/\∀ e∈((L++M)[i+1]?.getD ([],[])).1,¬ Lt e.1 (p.keys++[k]++q.keys)[i];rcases Nat.lt_trichotomy i p.keys.length with g | g | g
   ·have eK:(p.keys++[k]++q.keys)[i]=p.keys[i]:=by rw [List.getElem_append_left (by simp;omega),List.getElem_append_left g]
    rw [eK,List.getElem?_append_left (by omega),List.getElem?_append_left (by omega)];exact hb i g
   ·have eK:(p.keys++[k]++q.keys)[i]=k:=by
     rw [List.getElem_append_left (by simp;omega),List.getElem_append_right (by omega)];simp
    rw [eK,List.getElem?_append_left (by omega),List.getElem?_append_right (by omega)]
    constructor
    ·intro x hx;refine h1 x ?_;rw [hy];have g1:=List.getElem?_eq_getElem (l:=L) (i:=i) (by omega);rw [g1] at hx;exact List.mem_flatMap.2 ⟨_,List.getElem_mem _,hx⟩
    ·intro x hx;refine h2 x ?_;rw [hz];have g1:=List.getElem?_eq_getElem (l:=M) (i:=i+1-L.length) (by omega);rw [g1] at hx;exact List.mem_flatMap.2 ⟨_,List.getElem_mem _,hx⟩
   ·obtain ⟨j,rfl⟩:∃ j,i=p.keys.length+1+j:=⟨i-(p.keys.length+1),by omega⟩;have hj:j<q.keys.length:=by simp at hi;omega
    have eK:(p.keys++[k]++q.keys)[p.keys.length+1+j]=q.keys[j]:=by
     rw [List.getElem_append_right (by simp)]
     congr 1
     simp
    rw [eK,List.getElem?_append_right (by omega),List.getElem?_append_right (by omega),show p.keys.length+1+j-L.length=j by omega,show p.keys.length+1+j+1-L.length=j+1 by omega];exact hb' j hj
open Page (Pg Lay less Enc IsDec Lt Rises KeyOk)
theorem rises_pw:∀ {l:List Disk.Bs},Rises Lt l↔l.Pairwise Lt
 | []=>⟨fun _=>.nil,fun _ _ hj=>by simp at hj⟩
 | a :: r=>by
  rw [List.pairwise_cons,<- rises_pw (l:=r)]
  constructor
  ·intro h;obtain ⟨h1,h2⟩:=rises_cons h;refine ⟨fun b hb=>?_,h1⟩;obtain ⟨i,hi,rfl⟩:=List.mem_iff_getElem.1 hb;exact h2 i hi
  ·rintro ⟨h1,h2⟩;exact rises_tail h2 h1
def Sorted (l:Ents):Prop:=(l.map (·.1)).Pairwise Lt
theorem sorted_app {l r:Ents}:Sorted (l++r)↔Sorted l/\Sorted r/\∀ a∈l,∀ b∈r,Lt a.1 b.1:=by
 unfold Sorted;rw [List.map_append,List.pairwise_append];refine and_congr_right fun _=>and_congr_right fun _=>⟨fun h a ha b hb=>h _ (List.mem_map_of_mem ha) _ (List.mem_map_of_mem hb),fun h x hx y hy=>?_⟩
 obtain ⟨a,ha,rfl⟩:=List.mem_map.1 hx;obtain ⟨b,hb,rfl⟩:=List.mem_map.1 hy;exact h a ha b hb
theorem lt_trans {x y z:Disk.Bs} (h:Lt x y) (k:Lt y z):Lt x z:=less_trans (show less x y=true from h) k
theorem lt_irrefl (x:Disk.Bs):¬ Lt x x:=fun h=>by
 have h1:less x x=true:=h;rw [less_irrefl] at h1;exact absurd h1 (by decide)
theorem not_lt {x y:Disk.Bs} (h:¬ Lt x y):x=y\/Lt y x:=by
 by_cases e:x=y
 ·exact .inl e
 ·refine .inr (less_tri ?_ e);cases g:less x y
  ·rfl
  ·exact absurd g h
theorem le_lt {e k k':Disk.Bs} (h:¬ Lt e k) (g:Lt e k'):Lt k k':=by
 rcases not_lt h with rfl | h
 ·exact g
 ·exact lt_trans h g
theorem lt_le {a k e:Disk.Bs} (h:Lt a k) (g:¬ Lt e k):Lt a e:=by
 rcases not_lt g with rfl | g
 ·exact h
 ·exact lt_trans h g
theorem lt_asymm {x y:Disk.Bs} (h:Lt x y):¬ Lt y x:=fun g=>lt_irrefl x (lt_trans h g)
theorem between_rises {ks:List Disk.Bs} {L:List Held} (hb:Between ks L) (hl:L.length=ks.length+1) (hne:∀ z∈L,z.1≠[]):Rises Lt ks:=fun j hj=>by
 have hj':j+1<L.length:=by omega
 have hm:=hne _ (List.getElem_mem hj');obtain ⟨e,he⟩:=List.exists_mem_of_ne_nil _ hm;have e1:=List.getElem?_eq_getElem hj';exact le_lt ((hb j (by omega)).2 e (by rw [e1];exact he)) ((hb (j+1) hj).1 e (by rw [e1];exact he))
theorem between_sorted {ks:List Disk.Bs} {L:List Held} (hb:Between ks L) (hl:L.length=ks.length+1) (hr:Rises Lt ks) (hs:∀ z∈L,Sorted z.1):Sorted (L.flatMap (·.1)):=by
 unfold Sorted;rw [List.map_flatMap,List.pairwise_flatMap];refine ⟨fun z hz=>hs z hz,List.pairwise_iff_getElem.2 fun i j hi hj hij x hx y hy=>?_⟩;obtain ⟨a,ha,rfl⟩:=List.mem_map.1 hx;obtain ⟨b,hb',rfl⟩:=List.mem_map.1 hy;obtain ⟨q,rfl⟩:∃ q,j=q+1:=⟨j-1,by omega⟩;have h1:=(hb i (by omega)).1 a (by rw [List.getElem?_eq_getElem hi];exact ha);have h2:=(hb q (by omega)).2 b (by rw [List.getElem?_eq_getElem hj];exact hb')
 rcases Nat.eq_or_lt_of_le (show i<=q by omega) with rfl | g
 ·exact lt_le h1 h2
 ·exact lt_le (lt_trans h1 (rises_lt hr g (by omega))) h2
theorem pgAt_fun {d:St} {a k k':Int} {p q:Pg} (h:PgAt d a k p) (h':PgAt d a k' q):p=q:=Page.dec_fun h.2.1 h'.2.1
theorem pgAt_kids {d:St} {a:Int} {p:Pg} (h:PgAt d a 2 p):p.kids.length=p.keys.length+1:=((Page.fine2 h.2.2).1 (fine_of h)).1.kids
theorem isT_some {d:St}:∀ {m:Nat} {a:Int} {x:Held},IsT d m a x->Stout d a->x.1≠[]
 | 0,_,_,h,_=>h.elim
 | 1,a,x,⟨p,hp,e⟩,⟨k,q,hq,hf⟩=>by
  obtain rfl:=pgAt_fun hp hq;rw [e];intro h;unfold leastP fillP at hf;rw [if_pos hp.2.2,if_pos hp.2.2,show p.pairs=[] from h] at hf;simp at hf
 | m+2,a,x,⟨p,L,hp,hl,hk,hb,e⟩,_=>by
  have h0:=pgAt_kids hp;have hL:0<L.length:=by omega
  have g:=hk 0 _ _ (List.getElem?_eq_getElem (by omega)) (List.getElem?_eq_getElem hL);have:=isT_some g.1 g.2;rw [e];intro h;exact this (List.flatMap_eq_nil_iff.1 h _ (List.getElem_mem hL))
theorem kids_some {d:St} {m:Nat} {p:Pg} {L:List Held} (hl:L.length=p.kids.length) (hk:∀ (i:Nat) (n:Int) (z:Held),p.kids[i]?=some n->L[i]?=some z->IsT d (m+1) n z/\Stout d n):∀ z∈L,z.1≠[]:=fun z hz=>by
 obtain ⟨i,hi,rfl⟩:=List.mem_iff_getElem.1 hz;have g:=hk i _ _ (List.getElem?_eq_getElem (by omega)) (List.getElem?_eq_getElem hi);exact isT_some g.1 g.2
theorem isT_sorted {d:St}:∀ {m:Nat} {a:Int} {x:Held},IsT d m a x->Sorted x.1
 | 0,_,_,h=>h.elim
 | 1,a,x,⟨p,hp,e⟩=>by
  rw [e];exact rises_pw.1 ((Page.fine1 hp.2.2).1 (fine_of hp)).1.rises
 | m+2,a,x,⟨p,L,hp,hl,hk,hb,e⟩=>by
  rw [e];have h0:=pgAt_kids hp;refine between_sorted hb (by omega) ((Page.fine2 hp.2.2).1 (fine_of hp)).1.rises fun z hz=>?_
  obtain ⟨i,hi,rfl⟩:=List.mem_iff_getElem.1 hz;exact isT_sorted (hk i _ _ (List.getElem?_eq_getElem (by omega)) (List.getElem?_eq_getElem hi)).1
theorem vt_rises {d:St} {m:Nat} {p:Pg} {y:Held} (h:VT d (m+2) p y):Rises Lt p.keys:=by
 obtain ⟨-,h0,L,hl,hk,hb,-⟩:=h;exact between_rises hb (by omega) (kids_some hl hk)
theorem vt_sorted {d:St} {m:Nat} {p:Pg} {y:Held} (h:VT d (m+2) p y):Sorted y.1:=by
 have hr:=vt_rises h;obtain ⟨-,h0,L,hl,hk,hb,e⟩:=h;rw [e];refine between_sorted hb (by omega) hr fun z hz=>?_
 obtain ⟨i,hi,rfl⟩:=List.mem_iff_getElem.1 hz;exact isT_sorted (hk i _ _ (List.getElem?_eq_getElem (by omega)) (List.getElem?_eq_getElem hi)).1
theorem vt_leaf {d:St} {m:Nat} {p:Pg} {y:Held} (h:VT d m p y) (hk:p.kind=1):m=1/\y=(p.pairs,[]):=by
 match m,h with
 | 0,h=>exact h.elim
 | 1,h=>exact ⟨rfl,h.2⟩
 | m+2,h=>have:=h.1;rw [hk] at this;exact absurd this (by decide)
theorem vt_branch {d:St} {m:Nat} {p:Pg} {y:Held} (h:VT d m p y) (hk:p.kind=2):∃ q,m=q+2:=by
 match m,h with
 | 0,h=>exact h.elim
 | 1,h=>have:=h.1;rw [hk] at this;exact absurd this (by decide)
 | m+2,h=>exact ⟨m,rfl⟩
open Page (Pg Lay less Enc IsDec Lt Rises KeyOk Fine)
theorem pos_ahead {A l:List Disk.Bs} {key:Disk.Bs} (h:∀ a∈A,Lt a key):posOf (A++l) key=A.length+posOf l key:=by
 induction A with
 | nil=>simp
 | cons a A ih =>
  rw [List.cons_append,posOf_cons,if_pos (show less a key=true from h a (List.mem_cons_self ..)),ih (fun b hb=>h b (List.mem_cons_of_mem _ hb)),List.length_cons];omega
theorem pos_behind {l B:List Disk.Bs} {key:Disk.Bs} (h:∀ b∈B,¬ Lt b key):posOf (l++B) key=posOf l key:=by
 induction l with
 | nil =>
  rw [List.nil_append];cases B with
  | nil=>rfl
  | cons b B =>
   rw [posOf_cons,if_neg (show ¬ less b key=true from h b (List.mem_cons_self ..))]
   rfl
 | cons a l ih=>rw [List.cons_append,posOf_cons,posOf_cons,ih]
theorem pos_ctx {A l B:List Disk.Bs} {key:Disk.Bs} (hA:∀ a∈A,Lt a key) (hB:∀ b∈B,Lt key b):posOf (A++l++B) key=A.length+posOf l key:=by
 rw [pos_behind (fun b hb=>lt_asymm (hB b hb)),pos_ahead hA]
theorem has_ctx {A l B:List Disk.Bs} {key:Disk.Bs} (hA:∀ a∈A,Lt a key) (hB:∀ b∈B,Lt key b):hasOf (A++l++B) key=hasOf l key:=by
 unfold hasOf;rw [pos_ctx hA hB,List.append_assoc,List.getElem?_append_right (by omega),show A.length+posOf l key-A.length=posOf l key by omega];rcases Nat.lt_or_ge (posOf l key) l.length with h | h
 ·rw [List.getElem?_append_left h]
 ·have:=pos_le l key;have e:posOf l key=l.length:=by omega
  rw [List.getElem?_append_right h,List.getElem?_eq_none h,e,Nat.sub_self];cases B with
  | nil=>rfl
  | cons b B =>
   have hb:=hB b (List.mem_cons_self ..);have:b≠key:=fun e=>by rw [e] at hb;exact lt_irrefl _ hb
   simp [this]
theorem map_ctx {A l B:Ents}:keysOf (A++l++B)=keysOf A++keysOf l++keysOf B:=by
 show (A++l++B).map (·.1)=_;rw [List.map_append,List.map_append]
structure Around (key:Disk.Bs) (A B:Ents):Prop where
 lo:∀ e∈A,Lt e.1 key
 hi:∀ e∈B,Lt key e.1
theorem Around.ks {key:Disk.Bs} {A B:Ents} (h:Around key A B):(∀ a∈keysOf A,Lt a key)/\∀ b∈keysOf B,Lt key b :=
 ⟨fun a ha=>by obtain ⟨e,he,rfl⟩:=List.mem_map.1 ha;exact h.lo e he,fun b hb=>by obtain ⟨e,he,rfl⟩:=List.mem_map.1 hb;exact h.hi e he⟩
theorem keys_len (l:Ents):(keysOf l).length=l.length:=List.length_map ..
theorem posOf_ctx {key:Disk.Bs} {A B l:Ents} (h:Around key A B):posOf (keysOf (A++l++B)) key=A.length+posOf (keysOf l) key:=by
 rw [map_ctx,pos_ctx h.ks.1 h.ks.2,keys_len]
theorem hasOf_ctx {key:Disk.Bs} {A B l:Ents} (h:Around key A B):hasOf (keysOf (A++l++B)) key=hasOf (keysOf l) key:=by
 rw [map_ctx,has_ctx h.ks.1 h.ks.2]
theorem nextOf_ctx {key:Disk.Bs} {A B l:Ents} (h:Around key A B):nextOf (A++l++B) key=A.length+nextOf l key:=by
 unfold nextOf;rw [posOf_ctx h,hasOf_ctx h]
 split <;> omega
theorem cut_ctx {key:Disk.Bs} {A B l:Ents} (h:Around key A B):(A++l++B).take (posOf (keysOf (A++l++B)) key)=A++l.take (posOf (keysOf l) key)/\(A++l++B).drop (nextOf (A++l++B) key)=l.drop (nextOf l key)++B:=by
 obtain ⟨h1,h2⟩:=next_le l key;have h3:posOf (keysOf l) key<=l.length:=by have:=pos_le (keysOf l) key;rw [keys_len] at this;exact this
 rw [posOf_ctx h,nextOf_ctx h]
 constructor
 ·rw [List.append_assoc,List.take_append,List.take_of_length_le (by omega),show A.length+posOf (keysOf l) key-A.length=posOf (keysOf l) key by omega,List.take_append_of_le_length h3]
 ·rw [List.append_assoc,List.drop_append,List.drop_eq_nil_of_le (by omega),List.nil_append,show A.length+nextOf l key-A.length=nextOf l key by omega,List.drop_append_of_le_length h2]
theorem setP_ctx {key:Disk.Bs} {A B l:Ents} (h:Around key A B) (val:Disk.Bs):setP (A++l++B) key val=A++setP l key val++B:=by
 unfold setP;rw [(cut_ctx h).1,(cut_ctx h).2];simp
theorem cutP_ctx {key:Disk.Bs} {A B l:Ents} (h:Around key A B):cutP (A++l++B) key=A++cutP l key++B:=by
 unfold cutP;rw [(cut_ctx h).1,(cut_ctx h).2];simp
theorem valOf_ctx {key:Disk.Bs} {A B l:Ents} (h:Around key A B):valOf (A++l++B) key=valOf l key:=by
 unfold valOf;rw [hasOf_ctx h]
 split
 ·rename_i hh
  obtain ⟨h1,-⟩:=(has_iff _ _).1 hh;rw [keys_len] at h1;rw [posOf_ctx h,List.append_assoc,List.getElem?_append_right (by omega),show A.length+posOf (keysOf l) key-A.length=posOf (keysOf l) key by omega,List.getElem?_append_left h1]
 ·rfl
theorem parts_around {l:Ents} (hs:Sorted l) (key:Disk.Bs):Around key (l.take (posOf (keysOf l) key)) (l.drop (nextOf l key)):=by
 have hr:Rises Lt (keysOf l):=rises_pw.2 hs;refine ⟨fun e he=>?_,fun e he=>?_⟩
 ·obtain ⟨i,hi,rfl⟩:=List.mem_iff_getElem.1 he;rw [List.length_take] at hi;have:=(pos_iff hr key i (by rw [keys_len];omega)).2 (by omega);rw [List.getElem_take];show less _ _=true
  simpa using this
 ·obtain ⟨i,hi,rfl⟩:=List.mem_iff_getElem.1 he;rw [List.length_drop] at hi;rw [List.getElem_drop];have hlt:nextOf l key+i<(keysOf l).length:=by rw [keys_len];omega
  have hnp:posOf (keysOf l) key<=nextOf l key:=by unfold nextOf;split <;> omega
  have ek:(keysOf l)[nextOf l key+i]=(l[nextOf l key+i]'(by omega)).1:=by simp
  rw [<- ek];have h1:¬ Lt (keysOf l)[nextOf l key+i] key:=fun h=>by
   have:=(pos_iff hr key _ hlt).1 h;omega
  rcases not_lt h1 with e | h
  ·exfalso
   have hm:hasOf (keysOf l) key=true:=(has_mem hr key).2 (e ▸ List.getElem_mem hlt);obtain ⟨g1,g2⟩:=(has_iff _ _).1 hm;have en:nextOf l key=posOf (keysOf l) key+1:=by unfold nextOf;rw [if_pos hm]
   have:=rises_lt hr (i:=posOf (keysOf l) key) (j:=nextOf l key+i) (by omega) hlt;rw [g2,e] at this;exact lt_irrefl _ this
  ·exact h
theorem sorted_take {l:Ents} (h:Sorted l) (n:Nat):Sorted (l.take n):=by
 have:l=l.take n++l.drop n:=(List.take_append_drop n l).symm;rw [this] at h;exact (sorted_app.1 h).1
theorem sorted_drop {l:Ents} (h:Sorted l) (n:Nat):Sorted (l.drop n):=by
 have:l=l.take n++l.drop n:=(List.take_append_drop n l).symm;rw [this] at h;exact (sorted_app.1 h).2.1
theorem sorted_one (e:Disk.Bs×Disk.Bs):Sorted [e]:=by
 unfold Sorted;simp
theorem setP_sorted {l:Ents} (h:Sorted l) (key val:Disk.Bs):Sorted (setP l key val):=by
 have ha:=parts_around h key;have:setP l key val=l.take (posOf (keysOf l) key)++([(key,val)]++l.drop (nextOf l key)):=by unfold setP;simp
 rw [this];refine sorted_app.2 ⟨sorted_take h _,sorted_app.2 ⟨sorted_one _,sorted_drop h _,fun a ha' b hb=>?_⟩,fun a ha' b hb=>?_⟩
 ·rw [List.mem_singleton] at ha';rw [ha'];exact ha.hi b hb
 ·rcases List.mem_append.1 hb with hb | hb
  ·rw [List.mem_singleton] at hb;rw [hb];exact ha.lo a ha'
  ·exact lt_trans (ha.lo a ha') (ha.hi b hb)
theorem cutP_sorted {l:Ents} (h:Sorted l) (key:Disk.Bs):Sorted (cutP l key):=by
 have ha:=parts_around h key;exact sorted_app.2 ⟨sorted_take h _,sorted_drop h _,fun a ha' b hb=>lt_trans (ha.lo a ha') (ha.hi b hb)⟩
theorem setP_mem {l:Ents} {key val:Disk.Bs} {e:Disk.Bs×Disk.Bs} (h:e∈setP l key val):e∈l\/e=(key,val):=by
 unfold setP at h;rcases List.mem_append.1 h with h | h
 ·exact .inl (List.mem_of_mem_take h)
 ·rcases List.mem_cons.1 h with h | h
  ·exact .inr h
  ·exact .inl (List.mem_of_mem_drop h)
theorem cutP_mem {l:Ents} {key:Disk.Bs} {e:Disk.Bs×Disk.Bs} (h:e∈cutP l key):e∈l:=by
 unfold cutP at h;rcases List.mem_append.1 h with h | h
 ·exact List.mem_of_mem_take h
 ·exact List.mem_of_mem_drop h
end Go.Proofs.YtbhfammnffecoaaGreat.Tree
