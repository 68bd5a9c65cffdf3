import Derived.Test.YtglejnkoojpelaaGreatMS3
import Derived.Test.YtglejnkoojpelaaGreatMA1
import Derived.Test.YtglejnkoojpelaaGreatMS2
import Derived.Lib.LaidTab
import Derived.Test.YtglejnkoojpelaaGreatMS1
import Derived.Test.YtglejnkoojpelaaGreatMP7
import Derived.Test.YtglejnkoojpelaaGreatMD2
import Derived.Deep.RegionHeld3
import Derived.Test.YtglejnkoojpelaaGreatMQ3
import Derived.Test.YtglejnkoojpelaaGreatMP2
import Derived.WalkMore
import Derived.Test.YtglejnkoojpelaaGreatMQ2
set_option maxRecDepth 100000
set_option maxHeartbeats 32000000
namespace Go.Proofs.YtglejnkoojpelaaGreat.Store
open Go.RowKit Gen
open Disk (St Dev Mod ptr)
open Page (Pg Lay PgOk g0c pgC pgV Enc g0v BytesAt)
open Pool (Po NAt PoAt La poC poV numV At g0k g1g g1k g2m g0g OwnI chunks layAll)
open Lib (hid)
theorem g4c {S:List Nat} {cb:Nat} {w w':World} (h:Mod (cb :: S) w w') (hc:w.heap.size<=cb):Mod S w w' :=
 ⟨h.os,h.tape,h.output,h.size,fun k hk hn=>h.block k hk (fun e=>by
  rcases List.mem_cons.1 e with rfl | e
  ·omega
  ·exact hn e)⟩
theorem k3n (t:T) {root depth count:Int} (hr:I64 root) (hd:I64 depth) (hc:I64 count) (hh:I64 t.pool.high):PgOk (g1q t root depth count) :=
 ⟨⟨by show (_:Int)<=4;omega,by show (4:Int)<=_;omega⟩,Nat.zero_le _,Nat.zero_le _,Nat.zero_le _,Nat.zero_le _,⟨by show (_:Int)<=0;omega,by show (0:Int)<=_;omega⟩,Nat.mod_lt _ (by decide),hr,hd,hc,hh⟩
theorem g9v (t:T) (root depth count:Int):Bare (g1q t root depth count):=⟨rfl,rfl,rfl,rfl⟩
theorem row5 (W4:World) (cb sb:Nat):RowG (W4.alloc (.cells #[encF (106,cb),encF (107,cb),encF (108,sb),encF (109,cb),encF (108,sb)] 37)).drew encF (some ⟨W4.heap.size,0,none⟩) (g8d cb sb):=fun _=>⟨W4.heap.size,0,rfl,by simp,fun k hk=>by
 have h:=at_new W4 #[encF (106,cb),encF (107,cb),encF (108,sb),encF (109,cb),encF (108,sb)] 37;have hk':k<5:=hk;rw [Nat.zero_add]
 match k,hk' with
 | 0,_=>exact h.2.2 0 _ rfl
 | 1,_=>exact h.2.2 1 _ rfl
 | 2,_=>exact h.2.2 2 _ rfl
 | 3,_=>exact h.2.2 3 _ rfl
 | 4,_=>exact h.2.2 4 _ rfl⟩
theorem three {w:World} {B:Blk} {d:St} {t:T} {a:Lys} (h:Sto w B d t a):w.cell? ⟨B.ss,16,none⟩=some (.int .i64 t.pool.high)/\w.cell? ⟨B.ss,17,none⟩=some (.slice a.p.A1 t.pool.free.length a.p.c1)/\w.cell? ⟨B.ss,18,none⟩=some (.slice a.p.A2 t.pool.limbo.length a.p.c2):=⟨h.cells.2.1,h.cells.2.2.1,h.cells.2.2.2.1⟩
structure h2d (B:Blk) (d:St) (t:T) (sp:Pg) (g:Nat) (w2:World) (a:Lys) (k:Nat) (wr:World):Prop where
 sto:Has wr B d (g2c t (t.own.take k))
 mod:Mod B.all w2 wr
 box:At wr g (pgC sp {})
 row:NAt wr a.o t.own.length a.oc t.own
theorem h2d.more {B:Blk} {d:St} {t:T} {sp:Pg} {g:Nat} {w2:World} {a:Lys} {k:Nat} {wr w':World} (h:h2d B d t sp g w2 a k wr) (hk:k<t.own.length) (hg:g∉B.all) (h1:Has w' B d (g1n (g2c t (t.own.take k)) t.own[k]).1) (h2:Mod B.all wr w') (ho:t.own≠[]->Off B.off a.o):h2d B d t sp g w2 a (k+1) w' :=
 ⟨by rw [j0o t t.own k hk];exact h1,h.mod.trans h2,g0l h.box h2 hg,g4n h.row h2 (fun e=>(ho e).mono B.in_off)⟩
theorem h7u {w:World} {B:Blk} {d:St} {t:T} {a:Lys} (h:Sto w B d t a) (root depth count:Int) (hr:I64 root) (hd:I64 depth) (hc:I64 count) (hn:t.own.length<=100000) (ho:∀ x∈t.own,I64 x) :
 Calls Tryz.prog 61 #[ptr B.ss,.int .i64 root,.int .i64 depth,.int .i64 count] w (p4f B (g6g d t root depth count) w):=by
 have H:=hid h;obtain ⟨ep,hep⟩:∃ ep,(t.sup.epoch+1) % 18446744073709551616=ep:=⟨_,rfl⟩;obtain ⟨sp,hsp⟩:∃ sp,g1q t root depth count=sp:=⟨_,rfl⟩;have HSP:=hid (show PgOk sp/\Bare sp from by rw [<- hsp];exact ⟨k3n t hr hd hc (h9o h.pk (by have:=h.dev.nle;omega)),g9v _ _ _ _⟩);have ESP:=hid hsp;have hs2:sp={kind:=4,epoch:=ep,root:=root,depth:=depth,count:=count,high:=t.pool.high}:=by rw [<- hsp,g1q,hep]
 have HN:=hid hn;have HO:=hid ho;have HKS:=hid (show ∀ w',Below w.heap.size w w'->w'.cell? ⟨B.ss,7,none⟩=some (.int .u64 (t.sup.epoch:Int))/\w'.cell? ⟨B.ss,16,none⟩=some (.int .i64 t.pool.high) from fun w' hb=>⟨(h.below hb).super.2.2.2.2.2.2.1,(h.below hb).cells.2.1⟩);have hwe:IntKind.u64.wrap ((t.sup.epoch:Int)+1)=(ep:Int):=by
  rw [<- hep];show ((t.sup.epoch:Int)+1) % 18446744073709551616=_;omega
 have AB:At (w.alloc (.cells #[.int .i64 4,.slice none 0 0,.slice none 0 0,.slice none 0 0,.slice none 0 0,.int .i64 0,.int .u64 (ep:Int),.int .i64 root,.int .i64 depth,.int .i64 count,.int .i64 t.pool.high] 103)).drew w.heap.size (pgC sp {}):=by
  rw [hs2];exact at_new w #[.int .i64 4,.slice none 0 0,.slice none 0 0,.slice none 0 0,.slice none 0 0,.int .i64 0,.int .u64 (ep:Int),.int .i64 root,.int .i64 depth,.int .i64 count,.int .i64 t.pool.high] 103
 have BB:Below w.heap.size w (w.alloc (.cells #[.int .i64 4,.slice none 0 0,.slice none 0 0,.slice none 0 0,.slice none 0 0,.int .i64 0,.int .u64 (ep:Int),.int .i64 root,.int .i64 depth,.int .i64 count,.int .i64 t.pool.high] 103)).drew:=(Pool.g0a w _).drew;clear h hr hd hc hn ho hep hsp hs2;go_enter Tryz.func61,Tryz.ntmps61
 go_wp2_with fail
 go_region_held3 (fun w'=>w'.cell? ⟨B.ss,7,none⟩=some (.int .u64 (t.sup.epoch:Int))/\w'.cell? ⟨B.ss,16,none⟩=some (.int .i64 t.pool.high))
  (with_reducible (first | exact HKS.out _ (Below.refl _ _).drew | exact HKS.out _ ((Below.refl _ _).alloc (Nat.le_refl _) _).drew | exact HKS.out _ ((Below.refl _ _).alloc (Nat.le_refl _) _) | exact HKS.out _ ((Below.refl _ _).drew.alloc (Nat.le_refl _) _)))
  (first | fail)
 obtain ⟨W1,hW1⟩:∃ W1,(w.alloc (.cells #[.int .i64 4,.slice none 0 0,.slice none 0 0,.slice none 0 0,.slice none 0 0,.int .i64 0,.int .u64 (ep:Int),.int .i64 root,.int .i64 depth,.int .i64 count,.int .i64 t.pool.high] 103)).drew=W1:=⟨_,rfl⟩;rw [hW1] at AB BB ⊢;have ABH:=hid AB;have B1:=hid BB;have LP:=hid (g1c (o:=0) AB sp {} rfl);have cC:=Page.h1g sp {} W1 HSP.out.1 (HSP.out.2.rows _ _)
 clear hW1 AB BB hwe HKS;generalize hpv:pgV sp {}=pv at *;go_wp2_with (first | ((with_reducible refine Disk.g0d rfl 103 (.tmp 9) rfl _ ?_ LP.out ?_);(next=>rfl)))
 refine cC.mono ?_;rintro e w2 ⟨x,rfl,hx,b2⟩;have S2:=hid (H.out.below (B1.out.trans (b2.mono B1.out.size)));have M2:=hid (g0u (B:=B) (B1.out.trans (b2.mono B1.out.size)));rcases hx with ⟨rfl,hF⟩ | ⟨rfl,hF⟩
 ·subst hpv;have HF:=hid hF;have hlo:∀ x∈B.all,x<w.heap.size:=H.out.lt;have hg:w.heap.size∉B.all:=fun e=>Nat.lt_irrefl _ (hlo _ e)
  have HLO:=hid hlo;have c12:=S2.out.commit.1;have ST:=hid (show h2d B d t sp w.heap.size w2 a 0 w2 from ⟨⟨a,S2.out⟩,Mod.refl _ _,ABH.out.below b2 ABH.out.1,S2.out.own⟩);obtain ⟨m,hm⟩:∃ m,t.own.length=m:=⟨_,rfl⟩;rw [hm] at c12;have HM:=hid hm;have HNG:=hid hg;clear hF cC b2 LP ABH hlo hg hm;go_wp2_with fail
  go_loopw [44] (fun i wr=>∃ k:Nat,i=.int .i64 (k:Int)/\k<=m/\Hid (h2d B d t sp w.heap.size w2 a k wr)) (fun i _=>m-(intOf i).toNat)
  case atStart=>exact ⟨0,rfl,Nat.zero_le _,ST⟩
  case round =>
   obtain ⟨k,rfl,hk,R⟩:=hrel;clear ST c12
   by_cases hlt:k<m
   ·have hkl:k<t.own.length:=by have:=HM.out;omega
    obtain ⟨b,off,e1,hbl,hc⟩:=R.out.row.row (by intro e;rw [e] at hkl;simp at hkl);have hcell:=hc k hkl;obtain ⟨a1,s1⟩:=R.out.sto;have cD:=h3r s1 t.own[k] (HO.out _ (List.getElem_mem hkl));have hwr:IntKind.i64.wrap ((k:Int)+1)=(k:Int)+1:=IntWalk.i64_in _ (by have:=HN.out;omega);have HR:=hid (show ∀ w',Has w' B d (g1n (g2c t (t.own.take k)) t.own[k]).1->Mod B.all wr w'->h2d B d t sp w.heap.size w2 a (k+1) w' from fun w' h1 h2=>R.out.more hkl HNG.out h1 h2 S2.out.ao)
    generalize t.own[k]=y at *;generalize a.o=AO at *;obtain rfl:=e1;clear hc s1;go_wp2_with fail
    refine cD.mono ?_;rintro e w3 ⟨rfl,h3,m3⟩;have NEW:=hid (HR.out _ h3 m3);clear h3 m3 cD HR;go_wp2_with fail
    go_roundw
    case rel=>exact ⟨k+1,by go_num,by omega,NEW⟩
    case measure=>simp [intOf];omega
   ·obtain ⟨a1,s1⟩:=R.out.sto;have hkm:t.own.take k=t.own:=List.take_of_length_le (by have:=HM.out;omega);rw [hkm] at s1;have S3:=hid s1;have HKM:=hid hkm;have cb0:wr.heap.size∉B.all:=fun e=>Nat.lt_irrefl _ (s1.lt _ e)
    have LP:=hid (g1c (o:=0) R.out.box sp {} rfl);obtain ⟨cb,hcb⟩:∃ cb,wr.heap.size=cb:=⟨_,rfl⟩;have b4:=Pool.g0a wr (.cells (draC B sp {} (.slice none 0 0)) 177);have A4:=at_new wr (draC B sp {} (.slice none 0 0)) 177;obtain ⟨W4,hW4⟩:∃ W4,wr.alloc (.cells (draC B sp {} (.slice none 0 0)) 177)=W4:=⟨_,rfl⟩;rw [hW4,hcb] at A4;rw [hW4] at b4;have b5:=b4.trans ((Pool.g0a W4 (.cells #[encF (106,cb),encF (107,cb),encF (108,B.sb),encF (109,cb),encF (108,B.sb)] 37)).drew.mono b4.size)
    have r5:=row5 W4 cb B.sb;have A5:=A4.below ((Pool.g0a W4 (.cells #[encF (106,cb),encF (107,cb),encF (108,B.sb),encF (109,cb),encF (108,B.sb)] 37)).drew) A4.1;obtain ⟨W5,hW5⟩:∃ W5,(W4.alloc (.cells #[encF (106,cb),encF (107,cb),encF (108,B.sb),encF (109,cb),encF (108,B.sb)] 37)).drew=W5:=⟨_,rfl⟩;rw [hW5] at b5 r5 A5;have h4s:cb<W4.heap.size:=A4.1;have hA:Off (cb :: B.all) (some ⟨W4.heap.size,0,none⟩):=fun x e hx=>by
     cases e;rcases List.mem_cons.1 hx with e | e
     ·simp only at e;omega
     ·have:=s1.lt _ e;have:=b4.size;simp only at *;omega
    have co:CoAt wr cb B d (g2c t t.own) sp {} (some ⟨W4.heap.size,0,none⟩) (g8d cb B.sb) 0 W5:=⟨d,g2c t t.own,a1,sp,.slice none 0 0,[],{
     reach:=.start
     dr:=⟨s1.below b5,A5,fun x hx=>by rw [<- hcb];exact s1.lt x hx,fun x hx=>by rw [<- hcb];exact s1.xl x hx,OwnG.nil _ _ _ _,SepB.new s1 (Nat.le_of_eq hcb)⟩
     row:=r5,fr:=Fr.of_mod (g0u b5),ok:=HSP.out.1,bare:=HSP.out.2,i64:=fun x hx=>(by cases hx),len:=by simp,zero:=fun _=>rfl}⟩
    have cS:=k3s (c:=5) hA co;have KD:=hid (show ∀ w',Below W4.heap.size W4 w'->w'.cell? ⟨B.ss,0,none⟩=some (ptr B.sb) from fun w' hb=>(s1.below (b4.trans (hb.mono b4.size))).cells.1);have K4:=hid (KD.out W4.drew (Below.refl _ _).drew);have K5:=hid (show W5.cell? ⟨B.ss,0,none⟩=some (ptr B.sb) from (s1.below b5).cells.1);have MW:=hid (M2.out.trans R.out.mod);have hcbw:wr.heap.size<=cb:=Nat.le_of_eq hcb
    clear b4 A4 r5 A5 hA co s1 R hk hkm b5;rw [<- hW5] at cS K5;have hmf:∀ (fn:Fn) (first cap:Array Value) (w:World),(Instr.makeFunc fn first cap).run Tryz.prog w=.ok (.func fn first cap) w:=fun _ _ _ _=>rfl
    go_wp2_with (first | ((with_reducible refine Disk.g0d rfl 103 (.tmp 9) rfl _ ?_ LP.out ?_);(next=>rfl)))
    have K5':=K5;clear K5 hW5 hW4 LP hlt;refine wp_region_held (S:=fun w'=>w'.cell? ⟨B.ss,0,none⟩=some (ptr B.sb)) (by kernel_rfl) ?_;change wpAnyH _ _ _ _ _ _ _ _ W4.drew;have hSR:=K4.out;refine Gen.tk 0 hSR ?_;simp only [Act.put];refine Gen.tk 1 hSR ?_;simp only [Act.put];refine Gen.tk 2 hSR ?_;simp only [Act.put];refine Gen.tk 3 hSR ?_;simp only [Act.put];refine Gen.tk 4 hSR ?_;simp only [Act.put]
    refine Gen.tk 5 hSR ?_;simp only [Act.put];refine Gen.tk 6 hSR ?_;simp only [Act.put];refine Gen.tk 7 hSR ?_;simp only [Act.put];refine Gen.tk 8 hSR ?_;simp only [Act.put];refine Gen.tk 9 hSR ?_;simp only [Act.put];refine Gen.tk 10 hSR ?_;simp only [Act.put];refine Gen.tk 11 hSR ?_;simp only [Act.put];refine Gen.tk 12 hSR ?_;simp only [Act.put];refine Gen.tk 13 hSR ?_;simp only [Act.put];refine Gen.tk 14 hSR ?_
    simp only [Act.put];refine Gen.tk 15 hSR ?_;simp only [Act.put];refine wpAnyH_ready (rs:=[16]) (by kernel_rfl) (by simp) (AllReadyH.cons rfl (fun K hK=>?_) AllReadyH.nil);go_simp
    refine hK.out _ _ K5'.out (fun hSR=>?_);clear hK K;refine wpAnyH_ready (rs:=[17]) (by kernel_rfl) (by simp) (AllReadyH.cons rfl (fun K hK=>?_) AllReadyH.nil);go_simp
    refine cS.mono ?_;rintro e w6 ⟨x,rfl,hz,hnz⟩;have HZ:=hid hz;have HNZ:=hid hnz;have K6:=hid (show w6.cell? ⟨B.ss,0,none⟩=some (ptr B.sb) from by
     by_cases e:x=0
     ·obtain ⟨_,_,_,_,_,_,g⟩:=HZ.out e;exact g.dr.sto.cells.1
     ·obtain ⟨_,_,_,⟨_,g⟩,_⟩:=HNZ.out e;exact g.cells.1)
    clear hz hnz;refine hK.out _ _ K6.out (fun hSR=>?_);clear hK K;refine Gen.tk 18 hSR ?_;simp only [Act.put];refine wpAnyH_done (by kernel_rfl) ?_ _;clear hSR
    by_cases h0:x=0
    ·have d1:(x != 0)=false:=by simp [h0]
     obtain ⟨d',t2,a2,p2,v2,own2,g⟩:=HZ.out h0;obtain ⟨A2,c2,rfl,hN2⟩:=g5y g.dr.own;have KS:=hid (show ∀ w',At w' cb (draC B p2 {} (.slice A2 own2.length c2))->(w'.cell? ⟨B.ss,16,none⟩=some (.int .i64 t2.pool.high)/\w'.cell? ⟨B.ss,17,none⟩=some (.slice a2.p.A1 t2.pool.free.length a2.p.c1)/\w'.cell? ⟨B.ss,18,none⟩=some (.slice a2.p.A2 t2.pool.limbo.length a2.p.c2))->w'.cell? ⟨cb,1,none⟩=some (.int .i64 p2.kind)/\w'.cell? ⟨cb,2,none⟩=some (.slice none p2.pairs.length 0)/\w'.cell? ⟨cb,3,none⟩=some (.slice none p2.keys.length 0)/\w'.cell? ⟨cb,4,none⟩=some (.slice none p2.kids.length 0)/\w'.cell? ⟨cb,5,none⟩=some (.slice none p2.pages.length 0)/\w'.cell? ⟨cb,6,none⟩=some (.int .i64 p2.next)/\w'.cell? ⟨cb,7,none⟩=some (.int .u64 (p2.epoch:Int))/\w'.cell? ⟨cb,8,none⟩=some (.int .i64 p2.root)/\w'.cell? ⟨cb,9,none⟩=some (.int .i64 p2.depth)/\w'.cell? ⟨cb,10,none⟩=some (.int .i64 p2.count)/\w'.cell? ⟨cb,11,none⟩=some (.int .i64 p2.high)/\w'.cell? ⟨cb,12,none⟩=some (.slice A2 own2.length c2)/\w'.cell? ⟨B.ss,16,none⟩=some (.int .i64 t2.pool.high)/\w'.cell? ⟨B.ss,17,none⟩=some (.slice a2.p.A1 t2.pool.free.length a2.p.c1)/\w'.cell? ⟨B.ss,18,none⟩=some (.slice a2.p.A2 t2.pool.limbo.length a2.p.c2) from fun w' h1 h2=>⟨h1.2.2 1 _ rfl,h1.2.2 2 _ rfl,h1.2.2 3 _ rfl,h1.2.2 4 _ rfl,h1.2.2 5 _ rfl,h1.2.2 6 _ rfl,h1.2.2 7 _ rfl,h1.2.2 8 _ rfl,h1.2.2 9 _ rfl,h1.2.2 10 _ rfl,h1.2.2 11 _ rfl,h1.2.2 12 _ rfl,h2.1,h2.2.1,h2.2.2⟩)
     have K7:=hid (KS.out w6.drew (g.dr.box.below (Below.refl _ _).drew g.dr.box.1) (three (g.dr.sto.below (Below.refl _ _).drew)));have cT:=Pool.j0r t2.pool a2.p w6.drew (g.dr.sto.below (Below.refl _ _).drew).pool g.dr.sto.few.1 g.dr.sto.few.2;unfold poV poC at cT;have G:=hid g;have HN2:=hid hN2;have EQ:=hid (show numV 0=numV x from by rw [h0]);clear h0 g hN2 K6 K5' K4 KD cS HZ HNZ;go_wp2_with fail
     refine wp_region_held (S:=fun w'=>w'.cell? ⟨cb,1,none⟩=some (.int .i64 p2.kind)/\w'.cell? ⟨cb,2,none⟩=some (.slice none p2.pairs.length 0)/\w'.cell? ⟨cb,3,none⟩=some (.slice none p2.keys.length 0)/\w'.cell? ⟨cb,4,none⟩=some (.slice none p2.kids.length 0)/\w'.cell? ⟨cb,5,none⟩=some (.slice none p2.pages.length 0)/\w'.cell? ⟨cb,6,none⟩=some (.int .i64 p2.next)/\w'.cell? ⟨cb,7,none⟩=some (.int .u64 (p2.epoch:Int))/\w'.cell? ⟨cb,8,none⟩=some (.int .i64 p2.root)/\w'.cell? ⟨cb,9,none⟩=some (.int .i64 p2.depth)/\w'.cell? ⟨cb,10,none⟩=some (.int .i64 p2.count)/\w'.cell? ⟨cb,11,none⟩=some (.int .i64 p2.high)/\w'.cell? ⟨cb,12,none⟩=some (.slice A2 own2.length c2)/\w'.cell? ⟨B.ss,16,none⟩=some (.int .i64 t2.pool.high)/\w'.cell? ⟨B.ss,17,none⟩=some (.slice a2.p.A1 t2.pool.free.length a2.p.c1)/\w'.cell? ⟨B.ss,18,none⟩=some (.slice a2.p.A2 t2.pool.limbo.length a2.p.c2)) (by kernel_rfl) ?_
     change wpAnyH _ _ _ _ _ _ _ _ w6.drew;have hSR:=K7.out;refine Gen.tk 0 hSR ?_;simp only [Act.put];refine Gen.tk 1 hSR ?_;simp only [Act.put];refine Gen.tk 2 hSR ?_;simp only [Act.put];refine Gen.tk 3 hSR ?_;simp only [Act.put];refine Gen.tk 4 hSR ?_;simp only [Act.put];refine Gen.tk 5 hSR ?_;simp only [Act.put];refine Gen.tk 6 hSR ?_;simp only [Act.put];refine Gen.tk 7 hSR ?_;simp only [Act.put]
     refine Gen.tk 8 hSR ?_;simp only [Act.put];refine Gen.tk 9 hSR ?_;simp only [Act.put];refine Gen.tk 10 hSR ?_;simp only [Act.put];refine Gen.tk 11 hSR ?_;simp only [Act.put];refine Gen.tk 12 hSR ?_;simp only [Act.put];refine wpAnyH_ready (rs:=[13]) (by kernel_rfl) (by simp) (AllReadyH.cons rfl (fun K hK=>?_) AllReadyH.nil);go_simp
     refine cT.mono ?_;rintro e w8 ⟨c,rfl,hp,hb,hlo,hnone⟩;have B8:=hid ((Below.refl w6.heap.size w6).drew.trans (hb.mono (Nat.le_refl _)));have S8:=hid (G.out.dr.sto.below B8.out);have A8:=hid (G.out.dr.box.below B8.out G.out.dr.box.1);have K8:=hid (KS.out w8 A8.out (three S8.out));have HC:=hid (show OffP B.off c from ⟨G.out.dr.sto.off (n:=w6.heap.size) (Nat.le_refl _) (fun y e=>by have h1:w6.heap.size+2<=y.block:=hlo y e;omega),fun y e=>by rw [hnone] at e;cases e⟩)
     have R:=hid (h9i (o:=1) (c:=comC p2 own2 (h1w t2.pool) {a2 with s:={},o:=A2,oc:=c2,b:=c}) S8.out.box (by simp) j2q (by simp [Value.oneCell']));have hcbn:cb≠B.ss:=fun e=>by have:=G.out.dr.low B.ss (by simp [Blk.all]);omega
     have M9:=hid ((j6v (comC p2 own2 (h1w t2.pool) {a2 with s:={},o:=A2,oc:=c2,b:=c}).toList 1 w8 B.ss));have S9:=hid (S8.out.withBox (t':={t2 with sup:=p2,own:=own2,base:=h1w t2.pool}) (a':={a2 with s:={},o:=A2,oc:=c2,b:=c}) M9.out (g2o S8.out.box (by simp) rfl) rfl (HN2.out.below B8.out) hp S8.out.pool (fun _ y e hy=>by
      obtain ⟨A0,n0,c0,e0,_,hA0⟩:=Pool.g3v G.out.dr.own;cases e0;have h1:=hA0 y e;have h2:=(List.mem_append.1 hy).elim (G.out.dr.low _) (G.out.dr.lowx _);omega) HC.out.q S8.out.ap G.out.ok G.out.bare (h9n S8.out.pk) S8.out.pk)
     have K9:=hid (KS.out _ (g0l A8.out M9.out (by simpa using hcbn)) ⟨S9.out.cells.2.1,S9.out.cells.2.2.1,S9.out.cells.2.2.2.1⟩);have cB:=g8c S9.out;have M68:=hid (show Mod B.all w6 (w8.setCells B.ss 1 (comC p2 own2 (h1w t2.pool) {a2 with s:={},o:=A2,oc:=c2,b:=c}).toList) from (g0u B8.out).trans (Mod.mono M9.out (fun y hy=>by rw [List.mem_singleton] at hy;rw [hy];simp [Blk.all])))
     have FIN:=hid (show ∀ w',Has w' B d' (g3w {t2 with sup:=p2,own:=own2,base:=h1w t2.pool})->Mod B.all (w8.setCells B.ss 1 (comC p2 own2 (h1w t2.pool) {a2 with s:={},o:=A2,oc:=c2,b:=c}).toList) w'->g6g d t root depth count d' (newT t2 p2 own2) 0/\Has w' B d' (newT t2 p2 own2)/\Mod B.all w w' from fun w' h1 h2=>⟨.inr ⟨by rw [ESP.out];exact HF.out,.inr ⟨rfl,t2,p2,own2,by rw [ESP.out];exact G.out.reach,rfl⟩⟩,h1,MW.out.trans ((g4c G.out.fr hcbw).trans (M68.out.trans h2))⟩)
     obtain ⟨W9,hW9⟩:∃ W9,w8.setCells B.ss 1 (comC p2 own2 (h1w t2.pool) {a2 with s:={},o:=A2,oc:=c2,b:=c}).toList=W9:=⟨_,rfl⟩;rw [hW9] at R K9 cB FIN;clear hW9 M68 S9 M9 hcbn HC A8 S8 B8 HN2 G KS cT hp hb hlo hnone K7;clear hSR;refine hK.out _ _ K8.out (fun hSR=>?_);clear hK K;refine Gen.tk 14 hSR ?_;simp only [Act.put];refine Gen.tk 15 hSR ?_;simp only [Act.put];refine Gen.tk 16 hSR ?_;simp only [Act.put]
     refine wpAnyH_ready (rs:=[17]) (by kernel_rfl) (by simp) (AllReadyH.cons rfl (fun K hK=>?_) AllReadyH.nil);refine g1p (by rfl) 105 (.tmp 95) (.tmp 93) (by rfl) (by rfl) (by rfl) R.out ?_;refine hK.out _ _ K9.out (fun hSR=>?_);clear hK K;simp only [Act.put];refine wpAnyH_done (by kernel_rfl) ?_ _;clear hSR R K8 K9;go_wp2_with fail
     refine cB.mono ?_;rintro e w10 ⟨rfl,h10,m10⟩;have FF:=hid (FIN.out w10 h10 m10);clear h10 m10 cB FIN;go_wp2_with fail
     go_ret
     exact ⟨d',newT t2 p2 own2,0,rfl,FF.out⟩
    ·have d1:(x != 0)=true:=by simp [h0]
     obtain ⟨d',t',hh,⟨a6,s6⟩,f6⟩:=HNZ.out h0;have cE:=h4g s6 x;have FIN:=hid (show ∀ w',Has w' B d' (endT t' x)->Mod B.all w6 w'->g6g d t root depth count d' (endT t' x) x/\Has w' B d' (endT t' x)/\Mod B.all w w' from fun w' h1 h2=>⟨.inr ⟨by rw [ESP.out];exact HF.out,.inl ⟨t',h0,by rw [ESP.out];exact hh,rfl⟩⟩,h1,MW.out.trans ((g4c f6 hcbw).trans h2)⟩);clear h0 hh s6 f6 K6 K5' K4 KD cS HZ HNZ
     go_wp2_with fail
     refine cE.mono ?_;rintro e w7 ⟨rfl,h7,m7⟩;have FF:=hid (FIN.out w7 h7 m7);clear h7 m7 cE FIN;go_wp2_with fail
     go_ret
     exact ⟨d',endT t' x,x,rfl,FF.out⟩
 ·have FIN:=hid (show g6g d t root depth count d t 50/\Has w2 B d t/\Mod B.all w w2 from ⟨.inl ⟨by rw [ESP.out];exact hF,rfl,rfl,rfl⟩,⟨_,S2.out⟩,M2.out⟩);clear hF cC;go_wp2_with fail
  go_ret
  exact ⟨d,t,50,rfl,FIN.out⟩
open Pool (Po NAt PoAt La poC poV numV At g0k g1g g1k g2m g0g May)
def k0b (sup:Pg) (own:List Int) (base:Po):T:={sup:=sup,own:=own,base:=base,pool:=base,fresh:=fun _=>false}
theorem j7u (w:World) (sb:Nat) (sup:Pg) (own:List Int) (base:Po) (a:Lys) :
 Calls Tryz.prog 70 #[ptr sb,.agg (comC sup own base a)] w (fun e w'=>e=.returned (ptr (w.heap.size+2)) /\
  w'=((w.alloc (.cells (comC sup own base a) 105)).alloc (.map #[] 0)).alloc (.cells (stoC (k0b sup own base) {ss:=w.heap.size+2,sb:=sb,bl:=0,bc:=0,bf:=w.heap.size+1} {a with p:=a.b}) 108)):=by
 have hmm:=@run_makeMap Tryz.prog;go_enter Tryz.func70,Tryz.ntmps70
 go_wp2_with fail
 go_ret
 exact ⟨rfl,rfl⟩
theorem k1j {w:World} {sb bl bc:Nat} {d:St} {sup:Pg} {own:List Int} {base:Po} {a:Lys} (hd:Dev w sb bl bc d) (ho:NAt w a.o own.length a.oc own) (hb:PoAt w base a.b) (hok:PgOk sup) (hbr:Bare sup) (hk:g0g base d.n)
 (ao:Off [sb,bl,bc] a.o) (ab:OffP [sb,bl,bc] a.b) (lo:∀ x,a.o=some x->x.block<w.heap.size) (l1:∀ x,a.b.A1=some x->x.block<w.heap.size) (l2:∀ x,a.b.A2=some x->x.block<w.heap.size) :
 Calls Tryz.prog 70 #[ptr sb,.agg (comC sup own base a)] w (fun e w'=>∃ B:Blk,e=.returned (ptr B.ss)/\B.sb=sb/\B.bl=bl/\B.bc=bc/\w.heap.size<=B.ss/\w.heap.size<=B.bf/\Sto w' B d (k0b sup own base) {a with p:=a.b}/\Below w.heap.size w w'):=by
 refine (j7u w sb sup own base a).mono ?_;rintro e w' ⟨rfl,rfl⟩;refine ⟨{ss:=w.heap.size+2,sb:=sb,bl:=bl,bc:=bc,bf:=w.heap.size+1},rfl,rfl,rfl,rfl,by simp,by simp,?_,?_⟩
 ·have s1:(w.alloc (.cells (comC sup own base a) 105)).heap.size=w.heap.size+1:=World.size_alloc _ _;have s2:((w.alloc (.cells (comC sup own base a) 105)).alloc (.map #[] 0)).heap.size=w.heap.size+2:=by rw [World.size_alloc,s1]
  have b2:Below w.heap.size w ((w.alloc (.cells (comC sup own base a) 105)).alloc (.map #[] 0)):=((Below.refl _ _).alloc (Nat.le_refl _) _).alloc (by simp) _;have f2:=FMap.made (w.alloc (.cells (comC sup own base a) 105)) d.n;rw [s1] at f2;generalize (w.alloc (.cells (comC sup own base a) 105)).alloc (.map #[] 0)=W2 at *;have b3:=b2.trans ((Pool.g0a W2 (.cells (stoC (k0b sup own base) {ss:=w.heap.size+2,sb:=sb,bl:=bl,bc:=bc,bf:=w.heap.size+1} {a with p:=a.b}) 108)).mono b2.size)
  have A3:=at_new W2 (stoC (k0b sup own base) {ss:=w.heap.size+2,sb:=sb,bl:=bl,bc:=bc,bf:=w.heap.size+1} {a with p:=a.b}) 108;rw [s2] at A3;have k1:=hd.lt;have k2:=hd.last.lt;have k3:=hd.cache.lt;have off:∀ A:Option Addr,Off [sb,bl,bc] A->(∀ x,A=some x->x.block<w.heap.size)->Off (Blk.off {ss:=w.heap.size+2,sb:=sb,bl:=bl,bc:=bc,bf:=w.heap.size+1}) A:=fun A h1 h2 x e hx=>by
   have h3:=h1 x e;have h4:=h2 x e;simp only [Blk.off,Blk.all,List.append_nil,List.mem_cons,List.not_mem_nil,or_false,not_or] at hx h3;omega
  have f3:=f2.of_block ((Pool.g0a W2 (.cells (stoC (k0b sup own base) {ss:=w.heap.size+2,sb:=sb,bl:=bl,bc:=bc,bf:=w.heap.size+1} {a with p:=a.b}) 108)).block _ (by rw [s2];omega));exact {box:=A3,dev:=hd.below b3,fr:=f3,n1:=(by simp;omega),n2:=(by simp;omega),own:=ho.below b3,base:=hb.below b3,pool:=hb.below b3,ao:=fun _=>off _ ao lo,ab:=⟨fun _=>off _ ab.1 l1,fun _=>off _ ab.2 l2⟩,ap:=⟨fun _=>off _ ab.1 l1,fun _=>off _ ab.2 l2⟩,xl:=fun x hx=>(by cases hx),ok:=hok,bare:=hbr,bk:=hk,pk:=hk}
 ·exact (((Below.refl _ _).alloc (Nat.le_refl _) _).alloc (by simp) _).alloc (by simp;omega) _
open Pool (Po NAt PoAt La poC poV numV At g0k g1g g1k g2m g0g)
def h6e:T:=k0b {kind:=0} [] {high:=2}
theorem g2e:PgOk {kind:=0}:=⟨⟨by show (_:Int)<=0;omega,by show (0:Int)<=_;omega⟩,Nat.zero_le _,Nat.zero_le _,Nat.zero_le _,Nat.zero_le _,⟨by show (_:Int)<=0;omega,by show (0:Int)<=_;omega⟩,by decide,⟨by show (_:Int)<=0;omega,by show (0:Int)<=_;omega⟩,⟨by show (_:Int)<=0;omega,by show (0:Int)<=_;omega⟩,⟨by show (_:Int)<=0;omega,by show (0:Int)<=_;omega⟩,⟨by show (_:Int)<=0;omega,by show (0:Int)<=_;omega⟩⟩
theorem k0t {N:Int} (h:2<=N):g0g {high:=2} N:=⟨by show (2:Int)<=2;omega,h,List.Pairwise.nil,List.Pairwise.nil,fun x hx=>(by cases hx),fun x hx=>(by cases hx),fun x hx=>(by cases hx)⟩
def j3p (sb bl bc:Nat) (d:St) (w:World) (e:Ending) (w':World):Prop:=∃ d' t' x,g6g d h6e 0 0 0 d' t' x/\Mod [sb,bl,bc] w w' /\
 ((x≠0/\e=.returned (.tuple #[.pointer none,numV x]))\/(x=0/\∃ B:Blk,e=.returned (.tuple #[ptr B.ss,numV 0])/\B.sb=sb/\B.bl=bl/\B.bc=bc/\w.heap.size<=B.ss/\w.heap.size<=B.bf/\Has w' B d' t'))
theorem k0l {w:World} {sb bl bc:Nat} {d:St} (h:Dev w sb bl bc d) (hn:2<=d.n):Calls Tryz.prog 54 #[ptr sb] w (j3p sb bl bc d w):=by
 have cB:=k1j (sup:={kind:=0}) (own:=[]) (base:={high:=2}) (a:={}) h (NAt.none _) ⟨NAt.none _,NAt.none _⟩ g2e ⟨rfl,rfl,rfl,rfl⟩ (k0t (by omega)) (Off.none _) ⟨Off.none _,Off.none _⟩ (fun x e=>by cases e) (fun x e=>by cases e) (fun x e=>by cases e);clear h hn;go_enter Tryz.func54,Tryz.ntmps54
 go_wp2_with fail
 refine cB.mono ?_;rintro e w1 ⟨B,rfl,h1,h2,h3,h4,h5,h6,h7⟩;have hz:I64 0:=⟨by omega,by omega⟩;have cC:=h7u h6 0 0 0 hz hz hz (by show 0<=100000;omega) (fun x hx=>by cases hx);have FIN:=hid (show ∀ w' d' t' x,g6g d h6e 0 0 0 d' t' x->Has w' B d' t'->Mod B.all w1 w'->((x≠0->j3p sb bl bc d w (.returned (.tuple #[.pointer none,numV x])) w')/\(x=0->j3p sb bl bc d w (.returned (.tuple #[ptr B.ss,numV 0])) w')) from fun w' d' t' x g1 g2 g3=>by
  have m:Mod [sb,bl,bc] w w':=⟨g3.os.trans h7.os,g3.tape.trans h7.tape,g3.output.trans h7.output,Nat.le_trans h7.size g3.size,fun k hk hn=>(g3.block k (Nat.lt_of_lt_of_le hk h7.size) (fun e=>by
   simp only [Blk.all,List.mem_cons,List.not_mem_nil,or_false,h1,h2,h3] at e hn;omega)).trans (h7.block k hk)⟩
  exact ⟨fun hx=>⟨d',t',x,g1,m,.inl ⟨hx,rfl⟩⟩,fun hx=>⟨d',t',x,g1,m,.inr ⟨hx,B,rfl,h1,h2,h3,h4,h5,g2⟩⟩⟩)
 clear h1 h2 h3 h4 h5 h6 h7 cB;go_wp2_with fail
 refine cC.mono ?_;rintro e w2 ⟨d',t',x,rfl,g1,g2,g3⟩;have F:=hid (FIN.out w2 d' t' x g1 g2 g3);clear g1 g2 g3 cC FIN
 by_cases hx:x=0
 ·have d1:(x != 0)=false:=by simp [hx]
  have FF:=hid (F.out.2 hx);clear hx F;go_wp2_with fail
  go_ret2
  exact FF.out
 ·have d1:(x != 0)=true:=by simp [hx]
  have FF:=hid (F.out.1 hx);clear hx F;go_wp2_with fail
  go_ret2
  exact FF.out
open Page (g0v)
inductive j0a (g:Int->Disk.Bs):Int->List Int->List (List Int)->Prop
 | done:j0a g 0 [] []
 | step {n p own ls}:n≠0->g0v n (g n) p->p.kind=3->j0a g p.next own ls->j0a g n (n :: own) (p.pages :: ls)
theorem j0a.congr {g g':Int->Disk.Bs} {n:Int} {own:List Int} {ls:List (List Int)} (h:j0a g n own ls):(∀ x∈own,g' x=g x)->j0a g' n own ls:=by
 induction h with
 | done=>exact fun _=>.done
 | step h0 h1 h2 _ ih=>exact fun he=>.step h0 (by rw [he _ (List.mem_cons_self ..)];exact h1) h2 (ih (fun x hx=>he x (List.mem_cons_of_mem _ hx)))
open Pool (Po NAt PoAt La poC poV numV At g0k g1g g1k g2m g0g OwnI chunks layAll May)
def dur (d:St) (x:Int):Disk.Bs:=(d.L x).getD Disk.zeros
def Calm (d:St):Prop:=d.off=false/\d.fused=false
theorem Calm.act {d:St} (h:Calm d):d.act=d/\d.actE=0:=by
 unfold St.act St.actE;rw [h.2];exact ⟨rfl,rfl⟩
theorem k6w (l:Disk.Bs):(Disk.laid l).getD Disk.zeros=l:=by
 unfold Disk.laid
 split
 ·rename_i h;rw [h];rfl
 ·rfl
theorem p1n (d:St) (n:Int) (l:Disk.Bs):(d.write n l).L=d.L:=by
 unfold St.write
 split
 ·rfl
 ·split
  ·rfl
  ·split
   ·exact Disk.k9n d
   ·exact Disk.k9n d
theorem p1g (d:St) (n:Int) (l:Disk.Bs) {x:Int} (hx:x≠n):(d.write n l).C x=d.C x:=by
 unfold St.write
 split
 ·rfl
 ·split
  ·rfl
  ·split
   ·show Disk.upd d.act.C n _ x=_;rw [Disk.upd,if_neg hx,Disk.k4s]
   ·rw [Disk.k4s]
theorem k0d {d:St} {n:Int} {l:Disk.Bs} (h:d.writeE n l=0):(d.write n l).C n=some (Disk.pad l):=by
 unfold St.writeE at h;unfold St.write
 by_cases h1:d.off=true
 ·rw [if_pos h1] at h;exact absurd h (by decide)
 rw [if_neg h1] at h ⊢
 by_cases h2:d.bad n l.length=true
 ·rw [if_pos h2] at h;exact absurd h (by decide)
 rw [if_neg h2] at h ⊢;rw [if_pos h];show Disk.upd d.act.C n _ n=_;rw [Disk.upd,if_pos rfl]
theorem k0o {d:St} {n:Int} {l:Disk.Bs} (h:d.writeE n l≠0):(d.write n l).C=d.C:=by
 unfold St.writeE at h;unfold St.write
 by_cases h1:d.off=true
 ·rw [if_pos h1]
 rw [if_neg h1] at h ⊢
 by_cases h2:d.bad n l.length=true
 ·rw [if_pos h2]
 rw [if_neg h2] at h ⊢;rw [if_neg h];exact Disk.k4s d
theorem j9j {d:St} (h:Calm d) (n:Int) (l:Disk.Bs):Calm (d.write n l):=by
 have ha:=h.act.1;unfold St.write
 split
 ·exact h
 ·split
  ·exact h
  ·split
   ·show Calm {d.act with C:=_};rw [ha];exact h
   ·rw [ha];exact h
theorem h1c {d:St} (h:d.syncE=0):(∀ x,dur d.sync x=d.get x)/\∀ x,d.sync.C x=none:=by
 unfold St.syncE at h;unfold St.sync
 by_cases h1:d.off=true
 ·rw [if_pos h1] at h;exact absurd h (by decide)
 rw [if_neg h1] at h ⊢;rw [if_pos h];refine ⟨fun x=>?_,fun x=>rfl⟩;show (Disk.g5w d.act (fun _=>false) x).getD Disk.zeros=_;unfold Disk.g5w St.get;rw [Disk.k4s,Disk.k9n];cases d.C x with
 | none=>rfl
 | some l=>exact k6w l
theorem j1u {d:St} (h:d.syncE≠0):d.sync.L=d.L/\d.sync.C=d.C:=by
 unfold St.syncE at h;unfold St.sync
 by_cases h1:d.off=true
 ·rw [if_pos h1];exact ⟨rfl,rfl⟩
 rw [if_neg h1] at h ⊢;rw [if_neg h];exact ⟨Disk.k9n d,Disk.k4s d⟩
theorem g3a {d:St} (h:Calm d):Calm d.sync/\d.syncE=0:=by
 have ha:=h.act;unfold St.syncE St.sync;rw [h.1,ha.2,ha.1];exact ⟨h,rfl⟩
structure Writ (d:St) (sn:Int) (p:Pg) (d':St) (x:Int):Prop where
 L:d'.L=d.L
 C:∀ y,y≠sn->d'.C y=d.C y
 n:d'.n=d.n
 done:x=0->∃ l,Enc sn p l/\d'.C sn=some l
 fail:x≠0->d'.C=d.C
 calm:Calm d->Calm d'
theorem g7v.writ {d d':St} {n:Int} {p:Pg} {x:Int} (h:g7v d n p d' x):Writ d n p d' x:=by
 rcases h with ⟨l,hl,rfl,rfl⟩ | ⟨hno,rfl,rfl⟩
 ·refine ⟨p1n d n l,fun y hy=>p1g d n l hy,j5l d n l,fun e=>⟨l,hl,?_⟩,fun e=>k0o e,fun hc=>j9j hc n l⟩;rw [k0d e,Disk.pad,Page.k2b hl,Nat.sub_self,List.replicate_zero,List.append_nil]
 ·exact ⟨rfl,fun _ _=>rfl,rfl,fun e=>absurd e (by decide),fun _=>rfl,id⟩
structure p2y (own:List Int) (ls:List (List Int)) (d:St) (k:Nat) (d':St) (x:Int):Prop where
 L:d'.L=d.L
 n:d'.n=d.n
 C:∀ y,y∉own->d'.C y=d.C y
 low:∀ j,j<k->(hj:j<own.length)->d'.C own[j]=d.C own[j]
 done:x=0->∀ j,k<=j->(hj:j<own.length)->∃ l,Enc own[j] (h0c own ls j) l/\d'.C own[j]=some l
 calm:Calm d->Calm d'
theorem getD_at {α:Type} {l:List α} {k:Nat} (h:k<l.length) (z:α):l.getD k z=l[k]:=by
 rw [List.getD_eq_getElem?_getD,List.getElem?_eq_getElem h];rfl
theorem g4s.writs {own:List Int} {ls:List (List Int)} {d d':St} {k:Nat} {x:Int} (h:g4s own ls d k d' x) (hn:own.Nodup):p2y own ls d k d' x:=by
 have apart:∀ {i j:Nat} (hi:i<own.length) (hj:j<own.length),i≠j->own[i]≠own[j]:=fun hi hj hij e=>hij ((List.getElem_inj hn).1 e)
 induction h with
 | done hk=>exact ⟨rfl,rfl,fun _ _=>rfl,fun _ _ _=>rfl,fun _ j hj hj'=>absurd hj' (by omega),id⟩
 | fail hk hw hx =>
  have g:=hw.writ;rw [getD_at hk] at g;exact ⟨g.L,g.n,fun y hy=>g.C y (fun e=>hy (e ▸ List.getElem_mem hk)),fun j hj hj'=>g.C _ (apart hj' hk (by omega)),fun e=>absurd e hx,g.calm⟩
 | step hk hw _ ih =>
  have g:=hw.writ;rw [getD_at hk] at g;refine ⟨ih.L.trans g.L,ih.n.trans g.n,fun y hy=>(ih.C y hy).trans (g.C y (fun e=>hy (e ▸ List.getElem_mem hk))),fun j hj hj'=>(ih.low j (by omega) hj').trans (g.C _ (apart hj' hk (by omega))),fun e j hj hj'=>?_,fun hc=>ih.calm (g.calm hc)⟩;rcases Nat.eq_or_lt_of_le hj with rfl | hj
  ·obtain ⟨l,h1,h2⟩:=g.done rfl;exact ⟨l,h1,(ih.low _ (by omega) hj').trans h2⟩
  ·exact ih.done e j hj hj'
theorem j6z {g:Int->Disk.Bs} {own:List Int} {ls:List (List Int)} (h0:∀ x∈own,x≠0) (hl:ls.length<=own.length) (h:∀ j,(hj:j<own.length)->Enc own[j] (h0c own ls j) (g own[j])) :
 ∀ (n k:Nat),own.length-k=n->k<=own.length->∃ ls',j0a g (own.getD k 0) (own.drop k) ls'/\ls'.flatten=(ls.drop k).flatten
 | 0,k,hn,hk=>by
  obtain rfl:k=own.length:=by omega
  refine ⟨[],?_,?_⟩
  ·rw [List.drop_length,List.getD_eq_getElem?_getD,List.getElem?_eq_none (Nat.le_refl _)];exact .done
  ·rw [List.drop_eq_nil_of_le hl]
 | n+1,k,hn,hk=>by
  have hk':k<own.length:=by omega
  obtain ⟨ls',h1,h2⟩:=j6z h0 hl h n (k+1) (by omega) (by omega);refine ⟨ls.getD k [] :: ls',?_,?_⟩
  ·rw [getD_at hk',List.drop_eq_getElem_cons hk'];exact j0a.step (p:=h0c own ls k) (h0 _ (List.getElem_mem hk')) (Page.g7a (h k hk') (by show 0<_;decide)) rfl h1
  ·rw [List.flatten_cons,h2]
   by_cases hl':k<ls.length
   ·rw [List.drop_eq_getElem_cons hl',List.flatten_cons,getD_at hl']
   ·rw [List.drop_eq_nil_of_le (by omega),List.drop_eq_nil_of_le (by omega),List.getD_eq_getElem?_getD,List.getElem?_eq_none (by omega)]
    rfl
abbrev side (e:Nat):Int:=((e % 2:Nat):Int)
structure Holds (N:Nat) (g:Int->Disk.Bs) (sup:Pg) (own:List Int) (base:Po):Prop where
 here:g0v (side sup.epoch) (g (side sup.epoch)) sup
 kind:sup.kind=4
 there:∀ q,g0v (side (sup.epoch+1)) (g (side (sup.epoch+1))) q->q.epoch<sup.epoch
 lists:∃ ls,j0a g sup.next own ls/\ls.flatten=base.free
 nodup:own.Nodup
 high:base.high=sup.high
 limbo:base.limbo=[]
 ok:g0g base N
 live:∀ x∈own,Live base x
theorem g6r (e:Nat):side e=0\/side e=1:=by unfold side;omega
theorem k0u (e:Nat):side (e+1)≠side e:=by unfold side;omega
theorem j6j (e:Nat):side (e+1+1)=side e:=by unfold side;omega
theorem Holds.congr {N:Nat} {g g':Int->Disk.Bs} {sup:Pg} {own:List Int} {base:Po} (h:Holds N g sup own base) (he:∀ x,x=0\/x=1\/Live base x->g' x=g x):Holds N g' sup own base:=by
 have e0:∀ e,g' (side e)=g (side e):=fun e=>he _ (by rcases g6r e with h | h <;> simp [h])
 obtain ⟨ls,h1,h2⟩:=h.lists;exact ⟨by rw [e0];exact h.here,h.kind,by rw [e0];exact h.there,⟨ls,h1.congr (fun x hx=>he x (.inr (.inr (h.live x hx)))),h2⟩,h.nodup,h.high,h.limbo,h.ok,h.live⟩
def h3i (g:Disk.Bs) (e:Nat):Prop:=Page.Twin g/\∃ oe,oe<e/\g.take 8=Page.be 8 oe
theorem h3i.zeros {e:Nat} (h:0<e):h3i Disk.zeros e:=⟨Page.j8g,0,h,by decide⟩
theorem h3i.enc {s:Int} {p:Pg} {l:Disk.Bs} (h:Enc s p l) (hs:s=0\/s=1):h3i l (p.epoch+1):=⟨(Page.h9s h hs).1,p.epoch,by omega,(Page.h9s h hs).2.2.2⟩
theorem h3i.dec {s:Int} {g:Disk.Bs} {e:Nat} (h:h3i g e) (hs:s=0\/s=1) (he:e<=18446744073709551616) {q:Pg} (hq:g0v s g q) (hb:q.epoch<18446744073709551616):q.epoch<e:=by
 obtain ⟨_,oe,h1,h2⟩:=h;have h3:=(Page.h9s hq.2 hs).2.2.2;rw [h2] at h3;have:=Page.p3a h3 (by omega) (by omega);omega
structure Pre (d:St) (t:T):Prop where
 inv:Inv t
 bk:g0g t.base d.n
 pk:g0g t.pool d.n
 nle:d.n<=4096
 C:∀ x,d.C x≠none->2<=x/\¬ Live t.base x
 mine:h3i (dur d (side t.sup.epoch)) (t.sup.epoch+1)
 own:∀ x∈t.own,Live t.base x
structure Safe (d:St) (t:T):Prop where
 pre:Pre d t
 holds:Holds d.n (dur d) t.sup t.own t.base
 other:h3i (dur d (side (t.sup.epoch+1))) t.sup.epoch
structure Step (d:St) (t:T) (d1:St) (t1:T):Prop where
 n:d1.n=d.n
 part:Part t t1
 inv:Inv t1
 pk:g0g t1.pool d.n
 L:∀ x,x=0\/x=1\/Live t.base x->dur d1 x=dur d x
 C:∀ x,d1.C x≠none->2<=x/\¬ Live t.base x
theorem Pre.refl {d:St} {t:T} (h:Pre d t):Step d t d t:=⟨rfl,Part.refl t,h.inv,h.pk,fun _ _=>rfl,h.C⟩
theorem Step.pre {d d1:St} {t t1:T} (s:Step d t d1 t1) (h:Pre d t):Pre d1 t1:=by
 refine ⟨s.inv,by rw [s.part.base,s.n];exact h.bk,by rw [s.n];exact s.pk,by rw [s.n];exact h.nle,by rw [s.part.base];exact s.C,?_,by rw [s.part.own,s.part.base];exact h.own⟩;rw [s.part.sup,s.L _ (by rcases g6r t.sup.epoch with h | h <;> simp [h])];exact h.mine
theorem Step.safe {d d1:St} {t t1:T} (s:Step d t d1 t1) (h:Safe d t):Safe d1 t1:=by
 refine ⟨s.pre h.pre,?_,?_⟩
 ·rw [s.part.sup,s.part.own,s.part.base,s.n];exact h.holds.congr s.L
 ·rw [s.part.sup,s.L _ (by rcases g6r (t.sup.epoch+1) with h | h <;> simp [h])];exact h.other
theorem Step.pool {d d1:St} {t t1 t2:T} (s:Step d t d1 t1) (hp:Part t1 t2) (hi:Inv t2) (hk:g0g t2.pool d.n):Step d t d1 t2:=⟨s.n,s.part.trans hp,hi,hk,s.L,s.C⟩
theorem Step.cache {d d1 d2:St} {t t1:T} (s:Step d t d1 t1) (hn:d2.n=d1.n) (hL:d2.L=d1.L) (hC:∀ x,d2.C x≠d1.C x->2<=x/\¬ Live t.base x):Step d t d2 t1:=by
 refine ⟨hn.trans s.n,s.part,s.inv,s.pk,fun x hx=>by rw [<- s.L x hx,dur,dur,hL],fun x hx=>?_⟩
 by_cases e:d2.C x=d1.C x
 ·exact s.C x (by rw [<- e];exact hx)
 ·exact hC x e
theorem Step.write {d d1 d2:St} {t t1:T} {n x:Int} {p:Pg} (s:Step d t d1 t1) (h:g7v d1 n p d2 x) (ho:Out t1 n):Step d t d2 t1:=by
 have g:=h.writ;refine s.cache g.n g.L (fun y hy=>?_)
 by_cases e:y=n
 ·rw [e];exact ⟨ho.low,by rw [<- s.part.base];exact ho.live⟩
 ·exact absurd (g.C y e) hy
theorem p1l {t:T} {N:Int} (hb:g0g t.base N) (hp:g0g t.pool N) (e:Int):g0g (endT t e).pool N:=by
 rw [endT]
 split
 ·exact hp
 ·exact hb
theorem Step.ended {d d1:St} {t t1:T} (s:Step d t d1 t1) (h:Pre d t) (e:Int):Step d t d1 (endT t1 e) :=
 s.pool (k8f t1 e) (s.inv.ended e) (p1l (by rw [s.part.base];exact h.bk) s.pk e)
theorem h0e {t:T} {N:Int} (h:g0g t.pool N) (old:Int):g0g (g0x t N old).1.pool N:=by
 rw [g0x]
 split
 ·exact h
 split
 ·split
  ·exact g5g h
  ·split
   ·exact h8u (g5g h)
   ·exact h8n (h8u (g5g h))
 ·exact g5g h
theorem j7b {t:T} {N:Int} (h:g0g t.pool N) (n:Int):g0g (g1n t n).1.pool N:=by
 rw [g1n]
 split
 ·split
  ·exact h8n h
  ·exact h8n h
 ·exact h8u h
theorem g9g {N:Int}:∀ (l:List Int) {t:T},g0g t.pool N->g0g (g2c t l).pool N
 | [],_,h=>h
 | n :: l,_,h=>g9g l (j7b h n)
theorem Step.lay {d d1 d2:St} {t t1 t2:T} {old n e:Int} {p:Pg} (s:Step d t d1 t1) (h:Pre d t) (g:LayR d1 t1 old p d2 t2 n e):Step d t d2 t2:=by
 have hk:g0g t1.pool d1.n:=by rw [s.n];exact s.pk
 rcases g with ⟨_,rfl,rfl,_⟩ | ⟨_,⟨_,rfl,rfl,_⟩ | ⟨h0,x,hw,hx⟩⟩
 ·exact s
 ·obtain ⟨i1,p1,_⟩:=s.inv.place hk old;exact (s.pool p1 i1 (by have:=h0e hk old;rw [s.n] at this ⊢;exact this)).ended h _
 ·obtain ⟨i1,p1,f1⟩:=s.inv.place hk old;have s1:=s.pool p1 i1 (by have:=h0e hk old;rw [s.n] at this ⊢;exact this);have s2:=s1.write hw (i1.out (f1 h0));rcases hx with ⟨_,rfl,_⟩ | ⟨_,rfl,_⟩
  ·exact s2
  ·exact s2.ended h _
theorem Step.drop {d d1:St} {t t1:T} (s:Step d t d1 t1) (n:Int):Step d t d1 (g1n t1 n).1:=s.pool (s.inv.drop n).2 (s.inv.drop n).1 (j7b s.pk n)
theorem Step.sync {d d1:St} {t t1:T} (s:Step d t d1 t1):Step d t d1.sync t1:=by
 by_cases h:d1.syncE=0
 ·obtain ⟨h1,h2⟩:=h1c h;refine ⟨(h7h d1).trans s.n,s.part,s.inv,s.pk,fun x hx=>?_,fun x hx=>absurd (h2 x) hx⟩;have hC:d1.C x=none:=by
   cases hc:d1.C x with
   | none=>rfl
   | some l =>
    have:=s.C x (by rw [hc];simp);rcases hx with rfl | rfl | hx
    ·omega
    ·omega
    ·exact absurd hx this.2
  rw [h1,St.get,hC,<- s.L x hx]
  rfl
 ·obtain ⟨h1,h2⟩:=j1u h;exact s.cache (h7h d1) h1 (fun x hx=>absurd (by rw [h2]) hx)
theorem j4h {N:Int} {t t':T} {own own':List Int} {x:Int} (k:g5m N t own t' own' x):Inv t->g0g t.pool N->(∀ y∈own,t.fresh y=false)->t'.fresh=t.fresh/\∀ y∈own',t.fresh y=false:=by
 induction k with
 | done _=>exact fun _ _ h=>⟨rfl,h⟩
 | fail _ _=>exact fun hi hk h=>⟨(hi.take hk).2.2.1,h⟩
 | step h0 hx _ ih =>
  exact fun hi hk h=>by
   obtain ⟨i1,_,f1,_,_,_,o1⟩:=hi.take hk;have g:=ih i1 (g5g hk) (fun y hy=>by
    rw [f1];rcases List.mem_append.1 hy with hy | hy
    ·exact h y hy
    ·rw [List.mem_singleton] at hy;rw [hy];exact (o1 hx).2.2.1)
   rw [f1] at g;exact g
theorem h4y:∀ (l:List Int) {t:T},Inv t->(∀ x∈l,Live t.base x)->(g2c t l).fresh=t.fresh
 | [],_,_,_=>rfl
 | n :: l,t,hi,h=>by
  have h1:=hi.drop n;have e:(g1n t n).1.fresh=t.fresh:=by
   have:t.fresh n≠true:=fun e=>(hi.out e).live (h n (List.mem_cons_self ..))
   rw [g1n,if_neg this];exact (hi.give n).2.2.1
  have h2:=h4y l h1.1 (fun x hx=>by rw [h1.2.base];exact h x (List.mem_cons_of_mem _ hx));exact h2.trans e
theorem k1m {s:Int} {u:Disk.Bs} {p:Pg} (h:g0v s u p) (hs:s=0\/s=1):p.epoch<18446744073709551616:=by
 have hr:=h.1;rw [Page.h8h,if_pos hs,Page.g6k] at hr
 split at hr
 ·rename_i hl
  have hb:=Page.j3y (u.take 8);rw [List.length_take,Nat.min_eq_left hl] at hb;simp only [Option.bind_some,Option.map_eq_some_iff] at hr;obtain ⟨y,_,rfl⟩:=hr;exact hb
 ·simp at hr
theorem h1m {d0:St} {t t2:T} {own:List Int} {x:Int} (h:Pre d0 t) (ht:g5m d0.n (g2c t t.own) [] t2 own x):Step d0 t d0 t2/\Own t2 own/\(x=0->many t2.pool<=own.length)/\∀ y,t.fresh y=true->y∉own:=by
 have h1:=Inv.drops t.own h.inv;have k1:g0g (g2c t t.own).pool d0.n:=g9g t.own h.pk;obtain ⟨i2,p2,k2,o2,m2⟩:=Inv.takes ht h1.1 k1 ⟨fun x hx=>(by cases hx),List.nodup_nil⟩;have f:=j4h ht h1.1 k1 (fun y hy=>(by cases hy));rw [h4y t.own h.inv h.own] at f;exact ⟨(h.refl.pool h1.2 h1.1 k1).pool p2 i2 k2,o2,m2,fun y hy hm=>by rw [f.2 y hm] at hy;cases hy⟩
theorem h8g {d0 d':St} {t t2:T} {own:List Int} {ls:List (List Int)} {x:Int} (s:Step d0 t d0 t2) (o:Own t2 own) (hw:g4s own ls d0 0 d' x):Step d0 t d' t2/\p2y own ls d0 0 d' x:=by
 have W:=hw.writs o.nodup;refine ⟨s.cache W.n W.L (fun y hy=>?_),W⟩;have hm:y∈own:=Classical.byContradiction fun hn=>hy (W.C y hn)
 exact ⟨(o.out y hm).1.low,by rw [<- s.part.base];exact (o.out y hm).1.live⟩
structure Full (d0:St) (t:T) (d:St) (t2:T) (own:List Int):Prop where
 step:Step d0 t d t2
 C:∀ x,d.C x=none
 out:Own t2 own
 many:many t2.pool<=own.length
 enc:∀ j,(hj:j<own.length)->Enc own[j] (h0c own (chunks (layAll t2.pool.free t2.pool.limbo)) j) (dur d own[j])
 fresh:∀ y,t.fresh y=true->dur d y=d0.get y
 calm:Calm d0->Calm d
theorem g7i {d0 d:St} {t t2:T} {sp p:Pg} {own:List Int} (h:Pre d0 t) (r:Reach d0 (g2c t t.own) sp 3 d t2 p own):Full d0 t d t2 own/\p=sp:=by
 cases r with
 | sync r2 hs =>
  cases r2 with
  | list r1 hw =>
   cases r1 with
   | take ht =>
    obtain ⟨s1,o1,m1,f1⟩:=h1m h ht;obtain ⟨s2,W⟩:=h8g s1 o1 hw;obtain ⟨g1,g2⟩:=h1c hs;refine ⟨⟨s2.sync,g2,o1,m1 rfl,fun j hj=>?_,fun y hy=>?_,fun hc=>(g3a (W.calm hc)).1⟩,rfl⟩
    ·obtain ⟨l,e1,e2⟩:=W.done rfl j (Nat.zero_le _) hj;rw [g1,St.get,e2];exact e1
    ·rw [g1,St.get,W.C y (f1 y hy),W.L]
     rfl
theorem j5e {d0 d:St} {t t2:T} {own:List Int} {root depth count:Int} {l:Disk.Bs} (h:Pre d0 t) (f:Full d0 t d t2 own) (he:t.sup.epoch+1<18446744073709551616) (hl:Enc (side (t.sup.epoch+1)) (g4d (g1q t root depth count) t2 own) l) :
 ∀ g:Int->Disk.Bs,(∀ x,x≠side (t.sup.epoch+1)->g x=dur d x)->g (side (t.sup.epoch+1))=l->Holds d.n g (g4d (g1q t root depth count) t2 own) own (h1w t2.pool):=by
 intro g hg hs;have hep:(g4d (g1q t root depth count) t2 own).epoch=t.sup.epoch+1:=by show (t.sup.epoch+1) % 18446744073709551616=_;omega
 have low:∀ x∈own,g x=dur d x:=fun x hx=>hg x (by have:=(f.out.out x hx).1.low;rcases g6r (t.sup.epoch+1) with e | e <;> rw [e] <;> omega)
 obtain ⟨ls,c1,c2⟩:=j6z (g:=g) (ls:=chunks (layAll t2.pool.free t2.pool.limbo)) (fun x hx e=>by have:=(f.out.out x hx).1.low;omega) f.many (fun j hj=>by rw [low _ (List.getElem_mem hj)];exact f.enc j hj) own.length 0 rfl (Nat.zero_le _);refine ⟨?_,rfl,fun q hq=>?_,⟨ls,?_,?_⟩,f.out.nodup,rfl,rfl,?_,fun x hx=>?_⟩
 ·rw [hep,hs];exact Page.g7a hl (by rw [hep];exact he)
 ·rw [hep,j6j] at hq;rw [hep];rw [hg _ (fun e=>k0u _ e.symm),f.step.L _ (by rcases g6r t.sup.epoch with e | e <;> simp [e])] at hq;exact h.mine.dec (g6r _) (by omega) hq (k1m hq (g6r _))
 ·have e:(g4d (g1q t root depth count) t2 own).next=own.getD 0 0:=by
   show own.headD 0=_;rcases own with _ | ⟨x,r⟩ <;> rfl
  rw [e];exact c1
 ·rw [c2,List.drop_zero,Pool.j4l]
  rfl
 ·rw [f.step.n];exact h9n f.step.pk
 ·have o:=f.out.out x hx;exact ⟨o.1.low,o.1.top,fun hm=>by
   rcases (Pool.g5v _ _ x).1 hm with hm | hm
   ·exact o.1.free hm
   ·exact o.2 hm⟩
structure Mid (d0:St) (t:T) (d:St) (root:Int):Prop where
 n:d.n=d0.n
 L:∀ x,x=0\/x=1\/Live t.base x->dur d x=dur d0 x
 fresh:∀ y,t.fresh y=true->dur d y=d0.get y
 lead:∃ p l own base,Enc (side (t.sup.epoch+1)) p l/\p.epoch=t.sup.epoch+1/\p.root=root/\(∀ x m,d.C x=some m->x=side (t.sup.epoch+1)/\m=l) /\
  ∀ g:Int->Disk.Bs,(∀ x,x≠side (t.sup.epoch+1)->g x=dur d x)->g (side (t.sup.epoch+1))=l->Holds d.n g p own base
structure Made (d0:St) (t:T) (root:Int) (d:St) (t':T):Prop where
 safe:Safe d t'
 epoch:t'.sup.epoch=t.sup.epoch+1
 root:t'.sup.root=root
 fresh:∀ y,t.fresh y=true->dur d y=d0.get y
 calm:Calm d0->Calm d
 n:d.n=d0.n
theorem h2k {d0 d d':St} {t t2:T} {own:List Int} {root depth count x:Int} (_:Pre d0 t) (_:Full d0 t d t2 own) (he:t.sup.epoch+1<18446744073709551616) (hw:g7v d (((g1q t root depth count).epoch % 2:Nat):Int) (g4d (g1q t root depth count) t2 own) d' x) :
 Writ d (side (t.sup.epoch+1)) (g4d (g1q t root depth count) t2 own) d' x:=by
 have g:=hw.writ;have e:(((g1q t root depth count).epoch % 2:Nat):Int)=side (t.sup.epoch+1):=by show ((((t.sup.epoch+1) % 18446744073709551616) % 2:Nat):Int)=_;rw [Nat.mod_eq_of_lt he]
 rw [e] at g;exact g
theorem g9w {d0 d':St} {t t':T} {root depth count x:Int} (h:Pre d0 t) (he:t.sup.epoch+1<18446744073709551616) (c:g6g d0 t root depth count d' t' x) :
 (x≠0/\Step d0 t d' t'/\(Calm d0->Calm d'))\/(x≠0/\Mid d0 t d' root/\¬ Calm d0)\/(x=0/\Made d0 t root d' t'):=by
 rcases c with ⟨_,rfl,rfl,rfl⟩ | ⟨_,⟨t2,hx,hh,rfl⟩ | ⟨rfl,t2,p,own,r,rfl⟩⟩
 ·exact .inl ⟨by decide,h.refl,id⟩
 ·cases hh with
  | take ht _=>exact .inl ⟨hx,(h1m h ht).1.ended h _,id⟩
  | list r hw _ =>
   cases r with
   | take ht =>
    obtain ⟨s1,o1,_,_⟩:=h1m h ht;obtain ⟨s2,W⟩:=h8g s1 o1 hw;exact .inl ⟨hx,s2.ended h _,W.calm⟩
  | sync r hs =>
   cases r with
   | list r hw =>
    cases r with
    | take ht =>
     obtain ⟨s1,o1,_,_⟩:=h1m h ht;obtain ⟨s2,W⟩:=h8g s1 o1 hw;exact .inl ⟨hx,s2.sync.ended h _,fun hc=>(g3a (W.calm hc)).1⟩
  | lead r hw _ =>
   obtain ⟨f,-⟩:=g7i h r;have g:=h2k h f he hw;exact .inl ⟨hx,(f.step.cache g.n g.L (fun y hy=>absurd (by rw [g.fail hx]) hy)).ended h _,fun hc=>g.calm (f.calm hc)⟩
  | @last dd _ _ own r hs =>
   cases r with
   | @lead d1 _ _ _ r hw =>
    obtain ⟨f,-⟩:=g7i h r;have g:=h2k h f he hw;obtain ⟨l,e1,e2⟩:=g.done rfl;obtain ⟨k1,k2⟩:=j1u hs;have hd:∀ y,dur dd.sync y=dur d1 y:=fun y=>by rw [dur,dur,k1,g.L]
    have hn:dd.sync.n=d1.n:=(h7h _).trans g.n;refine .inr (.inl ⟨hx,⟨hn.trans f.step.n,fun y hy=>(hd y).trans (f.step.L y hy),fun y hy=>(hd y).trans (f.fresh y hy),_,l,own,h1w t2.pool,e1,?_,rfl,fun y m hm=>?_,fun q hq hs'=>?_⟩,fun hc=>hs (g3a (g.calm (f.calm hc))).2⟩)
    ·show (t.sup.epoch+1) % 18446744073709551616=_;omega
    ·rw [k2] at hm
     by_cases e:y=side (t.sup.epoch+1)
     ·rw [e,e2] at hm;exact ⟨e,(Option.some.inj hm).symm⟩
     ·rw [g.C y e,f.C y] at hm;cases hm
    ·rw [hn];exact j5e h f he e1 q (fun y hy=>(hq y hy).trans (hd y)) hs'
 ·cases r with
  | @last dd _ _ _ r hs =>
   cases r with
   | @lead d1 _ _ _ r hw =>
    obtain ⟨f,-⟩:=g7i h r;have g:=h2k h f he hw;obtain ⟨l,e1,e2⟩:=g.done rfl;obtain ⟨k1,k2⟩:=h1c hs;have hep:(g4d (g1q t root depth count) t2 own).epoch=t.sup.epoch+1:=by show (t.sup.epoch+1) % 18446744073709551616=_;omega
    have hn:dd.sync.n=d1.n:=(h7h _).trans g.n;have hd:∀ y,y≠side (t.sup.epoch+1)->dur dd.sync y=dur d1 y:=fun y hy=>by rw [k1,St.get,g.C y hy,f.C y,g.L];rfl
    have hs2:dur dd.sync (side (t.sup.epoch+1))=l:=by rw [k1,St.get,e2];rfl
    have H:=j5e h f he e1 (dur dd.sync) hd hs2;rw [<- hn] at H;have hk:g0g (h1w t2.pool) dd.sync.n:=by rw [hn,f.step.n];exact h9n f.step.pk
    have low:∀ y,t.fresh y=true->y≠side (t.sup.epoch+1):=fun y hy=>by
     have:=(h.inv.out hy).low;rcases g6r (t.sup.epoch+1) with e | e <;> rw [e] <;> omega
    refine .inr (.inr ⟨rfl,⟨⟨⟨⟨rfl,Int.le_refl _,fun y hy=>hy.2.2,fun y hy=>by cases hy⟩,hk,hk,by rw [hn,f.step.n];exact h.nle,fun y hy=>absurd (k2 y) hy,?_,fun y hy=>H.live y hy⟩,H,?_⟩,hep,rfl,fun y hy=>(hd y (low y hy)).trans (f.fresh y hy),fun hc=>(g3a (g.calm (f.calm hc))).1,hn.trans f.step.n⟩⟩)
    ·show h3i (dur dd.sync (side (g4d (g1q t root depth count) t2 own).epoch)) ((g4d (g1q t root depth count) t2 own).epoch+1);rw [hep,hs2,<- hep];exact h3i.enc e1 (g6r _)
    ·show h3i (dur dd.sync (side ((g4d (g1q t root depth count) t2 own).epoch+1))) (g4d (g1q t root depth count) t2 own).epoch;rw [hep,j6j,hd _ (fun e=>k0u _ e.symm),f.step.L _ (by rcases g6r t.sup.epoch with e | e <;> simp [e])];exact h.mine
theorem Safe.get {d:St} {t:T} (h:Safe d t) {x:Int} (hx:x=0\/x=1\/Live t.base x):d.get x=dur d x:=by
 have:d.C x=none:=by
  cases hc:d.C x with
  | none=>rfl
  | some l =>
   have:=h.pre.C x (by rw [hc];simp);rcases hx with rfl | rfl | hx
   ·omega
   ·omega
   ·exact absurd hx this.2
 rw [St.get,this]
 rfl
open Page (Pg Lay PgOk g0c pgC pgV Enc g0v BytesAt strV)
theorem g6x {N:Int} {t t2:T} {own:List Int} {x:Int} (h:g5m N t [] t2 own x) (hm:many t.pool=0):t2=t/\own=[]/\x=0:=by
 cases h with
 | done _=>exact ⟨rfl,rfl,rfl⟩
 | fail h _=>rw [hm] at h;exact absurd h (by simp)
 | step h _ _=>rw [hm] at h;exact absurd h (by simp)
theorem g9j {ls:List (List Int)} {d d':St} {x:Int} (h:g4s [] ls d 0 d' x):d'=d/\x=0:=by
 cases h with
 | done _=>exact ⟨rfl,rfl⟩
 | fail h _ _=>exact absurd h (by simp)
 | step h _ _=>exact absurd h (by simp)
theorem j8v {d:St} (h:Calm d) {n:Int} (h0:0<=n) (h1:n<d.n) {l:Disk.Bs} (hl:l.length=1024):d.writeE n l=0:=by
 have hh:d.has n=true:=by unfold St.has;simp;omega
 have hb:d.bad n l.length=false:=by unfold St.bad;rw [hh,hl];rfl
 unfold St.writeE;rw [h.1,hb,h.act.2]
 rfl
theorem j0s {s:Int} (hs:s=0\/s=1) {p:Pg} (hf:Page.Fine p) (hk:p.kind=4):∃ l,Enc s p l:=⟨_,hf,.inl ⟨hk,hs,rfl⟩⟩
theorem g5z {s:Int} (hs:Page.Place s) {p:Pg} (hf:Page.Fine p) (hk:p.kind≠4):∃ l,Enc s p l:=⟨_,hf,.inr ⟨hk,hs,rfl⟩⟩
theorem g5c {d d':St} {n:Int} {p:Pg} {x:Int} (h:g7v d n p d' x) (hc:Calm d) (h0:0<=n) (h1:n<d.n) (he:∃ l,Enc n p l):x=0:=by
 rcases h with ⟨l,hl,rfl,rfl⟩ | ⟨hno,-,-⟩
 ·exact j8v hc h0 h1 (Page.k2b hl)
 ·obtain ⟨l,hl⟩:=he;exact absurd hl (hno l)
theorem g8v {p:Pg} (hk:p.kind=4) (h:Page.g6w p) (hb:Bare p):Page.Fine p:=(Page.p3n hk).2 ⟨h,by rw [hb.pairs];rfl,by rw [hb.keys];rfl,by rw [hb.kids];rfl,by rw [hb.pages];rfl⟩
theorem h7d {d d':St} {t t':T} {root depth count x:Int} (h:g6g d t root depth count d' t' x) (hc:Calm d) (hn:2<=d.n) (ho:t.own=[]) (hm:many t.pool=0) (hf:Page.g6w (g1q t root depth count)) :
 x=0/\t'=newT t (g4d (g1q t root depth count) t []) []:=by
 have hsp:=g8v (p:=g1q t root depth count) rfl hf (g9v _ _ _ _);have hd:g2c t t.own=t:=by rw [ho];rfl
 have hle:∃ l,Enc (((g1q t root depth count).epoch % 2:Nat):Int) (g4d (g1q t root depth count) t []) l:=j0s (by omega) (g8v (p:=g4d (g1q t root depth count) t []) rfl ⟨hf.root,.inl rfl,hf.high,hf.depth,hf.dz,hf.count,hf.cz⟩ ⟨rfl,rfl,rfl,rfl⟩) rfl;rcases h with ⟨hno,-⟩ | ⟨-,⟨t2,hx,hh,rfl⟩ | ⟨rfl,t2,p,own,r,rfl⟩⟩
 ·exact absurd hsp hno
 ·exfalso
  rw [hd] at hh;cases hh with
  | take ht h=>exact h (g6x ht hm).2.2
  | list r hw h =>
   cases r with
   | take ht =>
    obtain ⟨-,rfl,-⟩:=g6x ht hm;exact h (g9j hw).2
  | sync r h =>
   cases r with
   | list r hw =>
    cases r with
    | take ht =>
     obtain ⟨-,rfl,-⟩:=g6x ht hm;obtain ⟨rfl,-⟩:=g9j hw;exact h (g3a hc).2
  | lead r hw h =>
   cases r with
   | sync r hs =>
    cases r with
    | list r hw0 =>
     cases r with
     | take ht =>
      obtain ⟨rfl,rfl,-⟩:=g6x ht hm;obtain ⟨rfl,-⟩:=g9j hw0;exact h (g5c hw (g3a hc).1 (by omega) (by rw [h7h];omega) hle)
  | last r h =>
   cases r with
   | lead r hw =>
    cases r with
    | sync r hs =>
     cases r with
     | list r hw0 =>
      cases r with
      | take ht =>
       obtain ⟨rfl,rfl,-⟩:=g6x ht hm;obtain ⟨rfl,-⟩:=g9j hw0;exact h (g3a (hw.writ.calm (g3a hc).1)).2
 ·refine ⟨rfl,?_⟩;rw [hd] at r;cases r with
  | last r hs2 =>
   cases r with
   | lead r hw =>
    cases r with
    | sync r hs =>
     cases r with
     | list r hw0 =>
      cases r with
      | take ht =>
       obtain ⟨rfl,rfl,-⟩:=g6x ht hm
       rfl
theorem h7c (n:Nat):Calm (St.fresh n):=⟨rfl,rfl⟩
theorem k7b {n:Nat} (h0:2<=n) (h1:n<=4096):Pre (St.fresh n) h6e :=
 ⟨⟨rfl,Int.le_refl _,fun x hx=>hx.2.2,fun x hx=>by cases hx⟩,k0t (by show (2:Int)<=(n:Int);omega),k0t (by show (2:Int)<=(n:Int);omega),h1,fun x hx=>absurd rfl hx,h3i.zeros (by decide),fun x hx=>by cases hx⟩
theorem j6n {d d':St} {t t' t2:T} {old m n e:Int} {p:Pg} (h:LayR d t old p d' t' n e) (hp:g0x t d.n old=(t2,m,0)) (hc:Calm d) (hf:Page.Fine p) (hk:p.kind≠4) (h0:2<=m) (h1:m<d.n) (h2:d.n<=4096) :
 n=m/\e=0/\t'=t2/\Calm d'/\d'.n=d.n/\∃ l,Enc m p l/\d'.get m=l:=by
 have e2:∃ l,Enc 2 p l:=g5z ⟨by omega,by omega⟩ hf hk;have em:∃ l,Enc m p l:=g5z ⟨h0,by omega⟩ hf hk;rcases h with ⟨hno,-⟩ | ⟨-,⟨hx,-⟩ | ⟨-,x,hw,hx⟩⟩
 ·obtain ⟨l,hl⟩:=e2;exact absurd hl (hno l)
 ·rw [hp] at hx;exact absurd rfl hx
 ·rw [hp] at hw hx;obtain rfl:=g5c hw hc (by show 0<=m;omega) h1 em;have g:=hw.writ;obtain ⟨l,hl,hC⟩:=g.done rfl;rcases hx with ⟨-,rfl,rfl,rfl⟩ | ⟨hx,-⟩
  ·exact ⟨rfl,rfl,rfl,g.calm hc,g.n,l,hl,by rw [St.get,hC];rfl⟩
  ·exact absurd rfl hx
theorem k3m {n:Nat} (h0:2<=n) (h1:n<=4096) {d':St} {t':T} {x:Int} (h:g6g (St.fresh n) h6e 0 0 0 d' t' x):x=0/\t'=newT h6e (g4d (g1q h6e 0 0 0) h6e []) []/\Safe d' t'/\Calm d'/\d'.n=n:=by
 obtain ⟨rfl,rfl⟩:=h7d h (h7c n) h0 rfl rfl ⟨.inl rfl,.inl rfl,⟨by show (2:Int)<=2;omega,by show (2:Int)<=4096;omega⟩,⟨by show (0:Int)<=0;omega,by show (0:Int)<=20;omega⟩,⟨fun _=>rfl,fun _=>rfl⟩,⟨by show (0:Int)<=0;omega,by show (0:Int)<=2147483647;omega⟩,⟨fun _=>rfl,fun _=>rfl⟩⟩;rcases g9w (k7b h0 h1) (by show 0+1<_;omega) h with ⟨hx,-⟩ | ⟨hx,-⟩ | ⟨-,m⟩
 ·exact absurd rfl hx
 ·exact absurd rfl hx
 ·exact ⟨rfl,rfl,m.safe,m.calm (h7c n),m.n⟩
theorem j4r {w w':World} {b o:Nat} {cs:List Value} (h:w.rangeAt b o cs) (hb:b<w.heap.size) (B:Below w.heap.size w w'):w'.rangeAt b o cs:=fun i v hv=>(B.cell (p:=⟨b,o+i,none⟩) hb).trans (h i v hv)
open Pool (Po NAt PoAt La poC poV numV At g0k g1g g1k g2m g0g May h4j)
theorem h8z {d:St} (ho:d.off=false) {x:Int} (h0:0<=x) (h1:x<d.n):d.readE x=0/\d.readB x=d.get x:=by
 have hh:d.has x=true:=by unfold St.has;simp;omega
 unfold St.readE St.readB;rw [ho,hh];exact ⟨rfl,rfl⟩
structure SOn (w0 w:World) (B:Blk) (d:St) (t:T):Prop where
 has:Has w B d t
 below:Below w0.heap.size w0 w
 new:∀ x∈B.all,w0.heap.size<=x
theorem SOn.mod {w0 w w':World} {B:Blk} {d d':St} {t t':T} (h:SOn w0 w B d t) (hs:Has w' B d' t') (m:Mod B.all w w'):SOn w0 w' B d' t' :=
 ⟨hs,h.below.trans (m.below h.below.size h.new),h.new⟩
theorem SOn.quiet {w0 w w':World} {B:Blk} {d:St} {t:T} (h:SOn w0 w B d t) (b:Below w.heap.size w w'):SOn w0 w' B d t :=
 h.mod (h.has.elim fun a s=>⟨a,s.below b⟩) (g0u b)
end Go.Proofs.YtglejnkoojpelaaGreat.Store
