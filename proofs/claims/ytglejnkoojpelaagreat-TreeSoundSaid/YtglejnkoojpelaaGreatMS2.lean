import Derived.Test.YtglejnkoojpelaaGreatMS1
import Derived.Test.YtglejnkoojpelaaGreatMQ3
set_option maxRecDepth 100000
set_option maxHeartbeats 32000000
namespace Go.Proofs.YtglejnkoojpelaaGreat.Store
open Go.RowKit Gen
open Disk (St Dev Mod ptr)
open Page (Pg Lay PgOk g0c pgC pgV Enc g0v BytesAt)
open Pool (Po NAt PoAt La poC poV numV At g0k g1g g1k g2m g0g)
open Lib (hid)
def I64 (n:Int):Prop:=-9223372036854775808<=n/\n<=9223372036854775807
theorem j6f {t:T} {N:Int} (h:g0g t.pool N) (he:(g0h t N).2.2=0):2<=(g0h t N).2.1/\(g0h t N).2.1<N:=by
 by_cases h0:(g0k t.pool N).2.2=0
 ·have e:(g0h t N).2.1=(g0k t.pool N).2.1:=by rw [g0h,if_pos h0]
  rw [e];have:=h0k h h0;exact ⟨this.1,this.2.1⟩
 ·rw [g0h,if_neg h0] at he;exact absurd he h0
theorem Sto.put {w:World} {B:Blk} {d:St} {t:T} {a:Lys} (h:Sto w B d t a) (n:Int) (h0:2<=n) (h1:n<d.n) :
 ∃ w',(Instr.mapUpdate 106 (.map (some B.bf)) (.int .i64 n) nothing).run Tryz.prog w=.ok () w'/\Has w' B d (frT t n true)/\Mod B.all w w':=by
 obtain ⟨w',r,f,g⟩:=h.fr.store h.dev.nle n (by omega) h1;exact ⟨w',r,⟨a,h.withFresh f g⟩,g8i (by simp [Blk.all]) g⟩
theorem Sto.cut {w:World} {B:Blk} {d:St} {t:T} {a:Lys} (h:Sto w B d t a) (n:Int) (hn:I64 n) :
 ∃ w',(Builtin.delete_ #[106,3] 0 #[.map (some B.bf),.int .i64 n]).run Tryz.prog w=.ok (.tuple #[]) w'/\Has w' B d (frT t n false)/\Mod B.all w w':=by
 obtain ⟨w',r,f,g⟩:=h.fr.drop n hn.1 hn.2 0;exact ⟨w',r,⟨a,h.withFresh f g⟩,g8i (by simp [Blk.all]) g⟩
theorem h4b {w:World} {B:Blk} {d:St} {t:T} {a:Lys} (h:Sto w B d t a) (old:Int) (ho:I64 old):Calls Tryz.prog 257 #[ptr B.ss,.int .i64 old] w (Ans (.tuple #[numV (g0x t d.n old).2.1,numV (g0x t d.n old).2.2]) B d (g0x t d.n old).1 w):=by
 have cL:=h1o h old ho.1 ho.2;have H:=hid h;have HO:=hid ho;obtain ⟨r,hr⟩:∃ r,g0x t d.n old=r:=⟨_,rfl⟩;rw [hr];have HR:=hid hr;clear hr h ho
 by_cases hf:t.fresh old=true
 ·have EQ:=hid (show r=(t,old,0) from by rw [<- HR.out,g0x,if_pos hf]);rw [hf] at cL;clear hf HR;go_enter Tryz.func257,Tryz.ntmps257
  go_wp2_with fail
  refine cL.mono ?_;rintro e w1 ⟨rfl,b1⟩;have FIN:=hid (show Has w1 B d t/\Mod B.all w w1 from ⟨⟨a,H.out.below b1⟩,g0u b1⟩);clear b1 cL H;go_wp2_with fail
  go_ret2
  exact ⟨by rw [EQ.out];rfl,by rw [EQ.out];exact FIN.out⟩
 have hf':t.fresh old=false:=by simpa using hf
 rw [hf'] at cL;have HF:=hid hf;clear hf hf';go_enter Tryz.func257,Tryz.ntmps257
 go_wp2_with fail
 refine cL.mono ?_;rintro e w1 ⟨rfl,b1⟩;have S1:=hid (H.out.below b1);have M1:=hid (g0u (B:=B) b1);have cT:=k9h S1.out;have PK:=hid H.out.pk;clear b1 cL H;obtain ⟨n1,hn1⟩:∃ n1,(g0h t d.n).2.1=n1:=⟨_,rfl⟩;obtain ⟨e1,he1⟩:∃ e1,(g0h t d.n).2.2=e1:=⟨_,rfl⟩;obtain ⟨t1,ht1⟩:∃ t1,(g0h t d.n).1=t1:=⟨_,rfl⟩;rw [hn1,he1,ht1] at cT;have AT:=hid (show e1=0->2<=n1/\n1<d.n from fun e=>by
  have:=j6f PK.out (he1.trans e)
  rwa [hn1] at this)
 have HP:=hid (show g0x t d.n old=if e1=0 then (if old=0 then (frT t1 n1 true,n1,0) else if (g2k t1 old).2=0 then (frT (g2k t1 old).1 n1 true,n1,0) else ((g2r (g2k t1 old).1 n1).1,0,(g2k t1 old).2)) else (t1,0,e1) from by
  rw [g0x,if_neg HF.out,hn1,he1,ht1])
 clear hn1 he1 ht1 PK HF;go_wp2_with fail
 refine cT.mono ?_;rintro e w2 ⟨rfl,⟨a2,s2⟩,m2⟩;have S2:=hid s2;have M2:=hid (M1.out.trans m2);clear s2 m2 cT S1 M1
 by_cases h1:e1=0
 ·have d1:(e1 != 0)=false:=by simp [h1]
  have hat:=AT.out h1
  by_cases h2:old=0
  ·have d2:(old != 0)=false:=by simp [h2]
   have EQ:=hid (show r=(frT t1 n1 true,n1,0) from by rw [<- HR.out,HP.out,if_pos h1,if_pos h2]);obtain ⟨w3,r3,s3,m3⟩:=S2.out.put n1 hat.1 hat.2;have FIN:=hid (show Has w3 B d (frT t1 n1 true)/\Mod B.all w w3 from ⟨s3,M2.out.trans m3⟩);have R3:=hid r3;have c19:=S2.out.cells.2.2.2.2;clear s3 m3 r3 h1 h2 hat AT HR HP S2 M2 HO;go_wp2_with (first | ((with_reducible refine Disk.g2x rfl 106 (.tmp 35) (.tmp 36) (.tmp 37) rfl _ _ _ ?_ ?_ ?_ R3.out ?_);(next=>rfl);(next=>rfl);(next=>rfl)))
   go_ret2
   exact ⟨by rw [EQ.out];rfl,by rw [EQ.out];exact FIN.out⟩
  ·have d2:(old != 0)=true:=by simp [h2]
   have cG:=h7e S2.out old;have HP2:=hid (show g0x t d.n old=(if (g2k t1 old).2=0 then (frT (g2k t1 old).1 n1 true,n1,0) else ((g2r (g2k t1 old).1 n1).1,0,(g2k t1 old).2)) from by rw [HP.out,if_pos h1,if_neg h2]);clear h1 h2 HP AT;obtain ⟨e2,he2⟩:∃ e2,(g2k t1 old).2=e2:=⟨_,rfl⟩;obtain ⟨t2,ht2⟩:∃ t2,(g2k t1 old).1=t2:=⟨_,rfl⟩;rw [he2,ht2] at cG HP2;clear he2 ht2;go_wp2_with fail
   refine cG.mono ?_;rintro e w3 ⟨rfl,⟨a3,s3⟩,m3⟩;have S3:=hid s3;have M3:=hid (M2.out.trans m3);clear s3 m3 cG S2 M2
   by_cases h2:e2=0
   ·have d3:(e2 != 0)=false:=by simp [h2]
    have EQ:=hid (show r=(frT t2 n1 true,n1,0) from by rw [<- HR.out,HP2.out,if_pos h2]);obtain ⟨w4,r4,s4,m4⟩:=S3.out.put n1 hat.1 hat.2;have FIN:=hid (show Has w4 B d (frT t2 n1 true)/\Mod B.all w w4 from ⟨s4,M3.out.trans m4⟩);have R4:=hid r4;have c19:=S3.out.cells.2.2.2.2;clear s4 m4 r4 h2 hat HR HP2 S3 M3 HO;go_wp2_with (first | ((with_reducible refine Disk.g2x rfl 106 (.tmp 35) (.tmp 36) (.tmp 37) rfl _ _ _ ?_ ?_ ?_ R4.out ?_);(next=>rfl);(next=>rfl);(next=>rfl)))
    go_ret2
    exact ⟨by rw [EQ.out];rfl,by rw [EQ.out];exact FIN.out⟩
   ·have d3:(e2 != 0)=true:=by simp [h2]
    have EQ:=hid (show r=((g2r t2 n1).1,0,e2) from by rw [<- HR.out,HP2.out,if_neg h2]);have cB:=h6p S3.out n1;clear h2 hat HR HP2;go_wp2_with fail
    refine cB.mono ?_;rintro e w4 ⟨rfl,s4,m4⟩;have FIN:=hid (show Has w4 B d (g2r t2 n1).1/\Mod B.all w w4 from ⟨s4,M3.out.trans m4⟩);clear s4 m4 cB S3 M3;go_wp2_with fail
    go_ret2
    exact ⟨by rw [EQ.out];rfl,by rw [EQ.out];exact FIN.out⟩
 ·have d1:(e1 != 0)=true:=by simp [h1]
  have EQ:=hid (show r=(t1,0,e1) from by rw [<- HR.out,HP.out,if_neg h1]);have FIN:=hid (show Has w2 B d t1/\Mod B.all w w2 from ⟨⟨a2,S2.out⟩,M2.out⟩);clear h1 AT HR HP S2 M2 HO;go_wp2_with fail
  go_ret2
  exact ⟨by rw [EQ.out];rfl,by rw [EQ.out];exact FIN.out⟩
theorem h3r {w:World} {B:Blk} {d:St} {t:T} {a:Lys} (h:Sto w B d t a) (n:Int) (hn:I64 n):Calls Tryz.prog 104 #[ptr B.ss,.int .i64 n] w (Ans (numV (g1n t n).2) B d (g1n t n).1 w):=by
 have cL:=h1o h n hn.1 hn.2;have H:=hid h;have HN:=hid hn;obtain ⟨r,hr⟩:∃ r,g1n t n=r:=⟨_,rfl⟩;rw [hr];have HR:=hid hr;clear hr h hn;cases hf:t.fresh n
 ·have EQ:=hid (show g2k t n=r from by rw [<- HR.out,g1n,if_neg (by simp [hf])]);rw [hf] at cL;clear hf HR;go_enter Tryz.func104,Tryz.ntmps104
  go_wp2_with fail
  refine cL.mono ?_;rintro e w1 ⟨rfl,b1⟩;have cG:=h7e (H.out.below b1) n;rw [EQ.out] at cG;have M1:=hid (g0u (B:=B) b1);clear b1 cL H EQ;go_wp2_with fail
  refine cG.mono ?_;rintro e w2 ⟨rfl,s2,m2⟩;go_wp2_with fail
  go_ret
  exact ⟨rfl,s2,M1.out.trans m2⟩
 ·have HP:=hid (show r=(if (g2r t n).2=0 then (frT (g2r t n).1 n false,0) else g2r t n) from by rw [<- HR.out,g1n,if_pos hf]);rw [hf] at cL;clear hf HR;go_enter Tryz.func104,Tryz.ntmps104
  go_wp2_with fail
  refine cL.mono ?_;rintro e w1 ⟨rfl,b1⟩;have cB:=h6p (H.out.below b1) n;have M1:=hid (g0u (B:=B) b1);obtain ⟨e2,he2⟩:∃ e2,(g2r t n).2=e2:=⟨_,rfl⟩;obtain ⟨t2,ht2⟩:∃ t2,(g2r t n).1=t2:=⟨_,rfl⟩;have hbt:g2r t n=(t2,e2):=by rw [<- he2,<- ht2]
  rw [hbt] at HP cB;clear b1 cL H he2 ht2 hbt;go_wp2_with fail
  refine cB.mono ?_;rintro e w2 ⟨rfl,⟨a2,s2⟩,m2⟩
  by_cases h2:e2=0
  ·have d3:(e2 != 0)=false:=by simp [h2]
   have EQ:=hid (show r=(frT t2 n false,0) from by rw [HP.out,if_pos h2]);obtain ⟨w4,r4,s4,m4⟩:=s2.cut n HN.out;have FIN:=hid (show Has w4 B d (frT t2 n false)/\Mod B.all w w4 from ⟨s4,(M1.out.trans m2).trans m4⟩);have R4:=hid r4;have c19:=s2.cells.2.2.2.2;clear s4 m4 r4 h2 HP s2 m2 M1 HN cB;go_wp2_with (first | ((with_reducible refine Disk.g7t rfl 106 3 (.tmp 24) (.tmp 25) rfl _ _ ?_ ?_ R4.out ?_);(next=>rfl);(next=>rfl)))
   go_ret
   exact ⟨by rw [EQ.out];rfl,by rw [EQ.out];exact FIN.out⟩
  ·have d3:(e2 != 0)=true:=by simp [h2]
   have EQ:=hid (show r=(t2,e2) from by rw [HP.out,if_neg h2]);have FIN:=hid (show Has w2 B d t2/\Mod B.all w w2 from ⟨⟨a2,s2⟩,M1.out.trans m2⟩);clear h2 HP s2 m2 M1 HN cB;go_wp2_with fail
   go_ret
   exact ⟨by rw [EQ.out];rfl,by rw [EQ.out];exact FIN.out⟩
structure Apart (S:List Nat) (p:Pg) (y:Lay):Prop where
 o1:p.pairs≠[]->Off S y.A1
 o2:p.keys≠[]->Off S y.A2
 o3:p.kids≠[]->Off S y.A3
 o4:p.pages≠[]->Off S y.A4
theorem h9t {α:Type} {enc:α->Value} {w w':World} {S:List Nat} {A:Option Addr} {l:List α} (h:RowG w enc A l) (m:Mod S w w') (hA:l≠[]->Off S A):RowG w' enc A l:=fun hne=>by
 obtain ⟨b,o,e,hlt,hc⟩:=h hne;exact ⟨b,o,e,Nat.lt_of_lt_of_le hlt m.size,fun j hj=>(m.cell (p:=⟨b,o+j,none⟩) hlt (hA hne ⟨b,o,none⟩ e)).trans (hc j hj)⟩
theorem h5f {α:Type} {enc:α->Value} {w w':World} {S:List Nat} {A:Option Addr} {l:List α} (h:RowG w enc A l) (m:Mod S w w') (hA:Off S A):RowG w' enc A l:=fun hne=>by
 obtain ⟨b,o,e,hlt,hc⟩:=h hne;exact ⟨b,o,e,Nat.lt_of_lt_of_le hlt m.size,fun j hj=>(m.cell (p:=⟨b,o+j,none⟩) hlt (hA ⟨b,o,none⟩ e)).trans (hc j hj)⟩
theorem g4f {w w':World} {S:List Nat} {p:Pg} {y:Lay} (h:g0c w p y) (m:Mod S w w') (ha:Apart S p y):g0c w' p y :=
 ⟨fun hne => by
   obtain ⟨b,o,e,hlt,hc⟩:=h.r1 hne;exact ⟨b,o,e,Nat.lt_of_lt_of_le hlt m.size,fun j hj=>⟨(m.cell (p:=⟨b,o+j*2,none⟩) hlt (ha.o1 hne ⟨b,o,none⟩ e)).trans (hc j hj).1,(m.cell (p:=⟨b,o+j*2+1,none⟩) hlt (ha.o1 hne ⟨b,o,none⟩ e)).trans (hc j hj).2⟩⟩,
  h9t h.r2 m ha.o2,h9t h.r3 m ha.o3,h9t h.r4 m ha.o4⟩
def LayR (d:St) (t:T) (old:Int) (p:Pg) (d':St) (t':T) (n e:Int):Prop :=
 ((∀ l,¬ Enc 2 p l)/\d'=d/\t'=t/\n=0/\e=50) \/
 ((∃ l,Enc 2 p l)/\(((g0x t d.n old).2.2≠0/\d'=d/\t'=endT (g0x t d.n old).1 (g0x t d.n old).2.2/\n=0/\e=(g0x t d.n old).2.2) \/
   ((g0x t d.n old).2.2=0/\∃ x,g7v d (g0x t d.n old).2.1 p d' x/\(x=0/\t'=(g0x t d.n old).1/\n=(g0x t d.n old).2.1/\e=0\/x≠0/\t'=endT (g0x t d.n old).1 x/\n=0/\e=x))))
def Laid (B:Blk) (R:St->T->Int->Int->Prop) (w:World) (e:Ending) (w':World):Prop:=∃ d' t' n x,e=.returned (.tuple #[numV n,numV x])/\R d' t' n x/\Has w' B d' t'/\Mod B.all w w'
theorem g6t {w:World} {B:Blk} {d:St} {t:T} {a:Lys} (h:Sto w B d t a) (old:Int) (ho:I64 old) (p:Pg) (y:Lay) (hok:PgOk p) (hR:g0c w p y) (hap:Apart B.all p y) :
 Calls Tryz.prog 232 #[ptr B.ss,.int .i64 old,pgV p y] w (Laid B (LayR d t old p) w):=by
 have b1:=Pool.g0a w (.cells (pgC p y) 103);have cE:=Page.h1x 2 p y (w.alloc (.cells (pgC p y) 103)) hok (hR.below b1);have LP:=hid (g1c (o:=0) (at_new w (pgC p y) 103) p y rfl);have AP:=hid (at_new w (pgC p y) 103);have RW:=hid (hR.below b1);have S1:=hid (h.below b1);have M1:=hid (g0u (B:=B) b1);have NB:=hid (show w.heap.size∉B.all from fun e=>Nat.lt_irrefl _ (h.lt _ e));have HO:=hid ho
 have HK:=hid hok;have HA:=hid hap;clear b1 h hok hR hap ho;obtain ⟨pv,hpv⟩:∃ pv,pgC p y=pv:=⟨_,rfl⟩;have hpv':pgV p y=.agg pv:=by rw [<- hpv]
 have HV:=hid hpv';rw [hpv'] at cE LP ⊢;rw [hpv] at LP AP RW S1 M1 cE;clear hpv hpv';obtain ⟨W1,hW1⟩:∃ W1,w.alloc (.cells pv 103)=W1:=⟨_,rfl⟩;rw [hW1] at cE LP AP RW S1 M1;go_enter Tryz.func232,Tryz.ntmps232
 go_wp2_with (first | ((with_reducible refine Disk.g0d rfl 103 (.tmp 5) rfl _ ?_ LP.out ?_);(next=>rfl)))
 refine cE.mono ?_;rintro e w2 (⟨A,k,c,l,rfl,-,henc,b2⟩ | ⟨rfl,hno,b2⟩)
 ·have S2:=hid (S1.out.below b2);have M2:=hid (M1.out.trans (g0u b2));have A2:=hid (AP.out.below b2 AP.out.1);have R2:=hid (RW.out.below b2);have cP:=h4b S2.out old HO.out;have HE:=hid (show ∃ l,Enc 2 p l from ⟨l,henc⟩);obtain ⟨n1,hn1⟩:∃ n1,(g0x t d.n old).2.1=n1:=⟨_,rfl⟩;obtain ⟨e1,he1⟩:∃ e1,(g0x t d.n old).2.2=e1:=⟨_,rfl⟩;obtain ⟨t1,ht1⟩:∃ t1,(g0x t d.n old).1=t1:=⟨_,rfl⟩;rw [hn1,he1,ht1] at cP
  have HP:=hid (show (g0x t d.n old).1=t1/\(g0x t d.n old).2.1=n1/\(g0x t d.n old).2.2=e1 from ⟨ht1,hn1,he1⟩);clear henc b2 cE hW1 hn1 he1 ht1 LP AP RW S1 M1;go_wp2_with fail
  refine cP.mono ?_;rintro e w3 ⟨rfl,⟨a3,s3⟩,m3⟩;have S3:=hid s3;have M3:=hid (M2.out.trans m3);have A3:=hid (g0l A2.out m3 NB.out);have R3:=hid (g4f R2.out m3 HA.out);clear s3 m3 cP S2 M2 A2 R2
  by_cases h1:e1=0
  ·have d1:(e1==0)=true:=by simp [h1]
   have L3:=hid (show (Instr.loadAt 103 (.pointer (some ⟨w.heap.size,0,none⟩))).run Tryz.prog w3=.ok (.agg pv) w3 from by
    have e:=HV.out;have e2:pgC p y=pv:=by injection e
    rw [<- e2] at A3;rw [<- e];exact g1c (o:=0) A3.out p y rfl)
   have cW:=g8a S3.out n1 p y HK.out R3.out;rw [HV.out] at cW;clear A3 R3 S3;go_wp2_with (first | ((with_reducible refine Disk.g0d rfl 103 (.tmp 5) rfl _ ?_ L3.out ?_);(next=>rfl)))
   refine cW.mono ?_;rintro e w4 ⟨d',x,rfl,hw,s4,m4⟩;have M4:=hid (M3.out.trans m4);have HW:=hid hw;have H1:=hid h1
   by_cases h2:x=0
   ·have d2:(x != 0)=false:=by simp [h2]
    have FIN:=hid (show Has w4 B d' t1/\LayR d t old p d' t1 n1 0 from ⟨⟨a3,s4⟩,.inr ⟨HE.out,.inr ⟨HP.out.2.2.trans H1.out,x,by rw [HP.out.2.1];exact HW.out,.inl ⟨h2,HP.out.1.symm,HP.out.2.1.symm,rfl⟩⟩⟩⟩);clear h1 h2 hw s4 m4 cW M3 HP HE HW H1 HO HK HA;go_wp2_with fail
    go_ret2
    exact ⟨d',t1,n1,0,rfl,FIN.out.2,FIN.out.1,M4.out⟩
   ·have d2:(x != 0)=true:=by simp [h2]
    have cD:=h4g s4 x;have FIN:=hid (show LayR d t old p d' (endT t1 x) 0 x from .inr ⟨HE.out,.inr ⟨HP.out.2.2.trans H1.out,x,by rw [HP.out.2.1];exact HW.out,.inr ⟨h2,by rw [HP.out.1],rfl,rfl⟩⟩⟩);clear h1 h2 hw s4 m4 cW M3 HP HE HW H1 HO HK HA;go_wp2_with fail
    refine cD.mono ?_;rintro e w5 ⟨rfl,s5,m5⟩;go_wp2_with fail
    go_ret2
    exact ⟨d',_,0,x,rfl,FIN.out,s5,M4.out.trans m5⟩
  ·have d1:(e1==0)=false:=by simp [h1]
   have d2:(e1 != 0)=true:=by simp [h1]
   have cD:=h4g S3.out e1;have FIN:=hid (show LayR d t old p d (endT t1 e1) 0 e1 from .inr ⟨HE.out,.inl ⟨by rw [HP.out.2.2];exact h1,rfl,by rw [HP.out.1,HP.out.2.2],rfl,HP.out.2.2.symm⟩⟩);clear h1 A3 R3 S3 HP HE HO HK HA;go_wp2_with fail
   refine cD.mono ?_;rintro e w5 ⟨rfl,s5,m5⟩;go_wp2_with fail
   go_ret2
   exact ⟨d,_,0,e1,rfl,FIN.out,s5,M3.out.trans m5⟩
 ·have FIN:=hid (show Has w2 B d t/\Mod B.all w w2/\LayR d t old p d t 0 50 from ⟨⟨a,S1.out.below b2⟩,M1.out.trans (g0u b2),.inl ⟨hno,rfl,rfl,rfl,rfl⟩⟩);clear b2 hno cE hW1 LP AP RW S1 M1 HO HK HA;go_wp2_with fail
  go_ret2
  exact ⟨d,t,0,50,rfl,FIN.out.2.2,FIN.out.1,FIN.out.2.1⟩
open Pool (Po NAt PoAt La poC poV numV At g0k g1g g1k g2m g0g OwnI)
def p2e (l:List Int) (w:World) (e:Ending) (w':World):Prop:=∃ A n c,e=.returned (.slice A n c)/\NAt w' A n c l/\Below w.heap.size w w'/\∀ x,A=some x->w.heap.size<=x.block
theorem p2c (w:World):(binOp .eql 66 (.slice none 0 0) (.slice none 0 0)).run Tryz.prog w=.ok (.bool true) w:=by kernel_rfl
theorem k9r (x:Addr) (n c:Nat) (w:World):(binOp .eql 66 (.slice (some x) n c) (.slice none 0 0)).run Tryz.prog w=.ok (.bool false) w:=by kernel_rfl
theorem h5i (A:Option Addr) (n c:Nat) (l:List Int) (w:World) (h:NAt w A n c l) (hn:n<=100000):Calls Tryz.prog 82 #[.slice A n c] w (p2e l w):=by
 rcases A with _ | x
 ·have e:l=[]:=by
   rcases l with _ | ⟨y,l⟩
   ·rfl
   ·obtain ⟨b,o,e,_⟩:=h.row (by simp);cases e
  obtain rfl:=e;have hc:=h.nil rfl;have hl:=h.len;have hcap:=h.cap;obtain rfl:n=0:=by omega
  obtain rfl:=hc;have hq:=p2c w;clear h hl hcap hn;go_enter Tryz.func82,Tryz.ntmps82
  go_wp2_with fail
  go_ret
  exact ⟨none,0,0,rfl,NAt.none _,Below.refl _ _,fun x e=>by cases e⟩
 ·have b1:=Pool.g0a w (.cells #[] 3);have hown:OwnI (w.alloc (.cells #[] 3)) w.heap.size (.slice (some ⟨w.heap.size,0,none⟩) 0 0) []:=⟨rfl,.inr ⟨w.heap.size,0,#[],rfl,Nat.le_refl _,heap_alloc_last w _,Nat.le_refl _,Nat.zero_le _,rfl,rfl⟩⟩;have h1:=h.below b1;obtain ⟨v',W',hrun,ho,hg,hv⟩:=g1x Pool.g2p (w.alloc (.cells #[] 3)) w.heap.size _ [] hown (some x) n c l h1.len h1.nil h1.row (by simp;omega) b1.size
  have R:=hid hrun;have HO:=hid ho;have B2:=hid (below_grown b1 hown hg b1.size);have hq:=k9r x n c w;clear h h1 hown hrun ho hg hv b1;go_enter Tryz.func82,Tryz.ntmps82
  go_wp2_with (first | ((with_reducible refine g0e rfl (.tmp 5) (.tmp 6) 66 rfl ?_ ?_ R.out ?_);(next=>rfl);(next=>rfl)))
  go_ret
  obtain ⟨A',n',c',e,hN,hlo⟩:=Pool.g3v HO.out;exact ⟨A',n',c',congrArg Ending.returned e,by simpa using hN,B2.out,hlo⟩
theorem k0m {w:World} {B:Blk} {d:St} {t:T} {a:Lys} (h:Sto w B d t a) (hn:t.own.length<=100000):Calls Tryz.prog 37 #[ptr B.ss] w (p2e t.own w):=by
 have c12:=h.commit.1;have cC:=h5i a.o _ a.oc t.own w h.own hn;clear h;go_enter Tryz.func37,Tryz.ntmps37
 go_wp2_with fail
 refine cC.mono ?_;rintro e w1 ⟨A,n,c,rfl,h1,h2,h3⟩;go_wp2_with fail
 go_ret
 exact ⟨A,n,c,rfl,h1,h2,h3⟩
theorem h3u {w:World} {B:Blk} {d:St} {t:T} {a:Lys} (h:Sto w B d t a):Calls Tryz.prog 122 #[ptr B.ss] w fun e w'=>e=.returned (pgV t.sup a.s)/\Below w.heap.size w w':=by
 have LS:=hid ((h.alloc (.cells pgZ 103)).loadSup);have P:=hid (g1s w t.sup a.s);have L:=hid (g2s (o:=0) (at_new w (pgC t.sup a.s) 103) t.sup a.s rfl);have BL:=hid (Pool.g0a w (.cells (pgC t.sup a.s) 103));obtain ⟨pv,hpv⟩:∃ pv,pgV t.sup a.s=pv:=⟨_,rfl⟩;rw [hpv] at LS P L ⊢;clear h hpv;generalize pgC t.sup a.s=C at *;go_enter Tryz.func122,Tryz.ntmps122
 go_wp2_with (first | ((with_reducible refine Disk.g0d rfl 103 (.tmp 9) rfl _ ?_ LS.out ?_);(next=>rfl)) | ((with_reducible refine Disk.g0b rfl 103 (.tmp 2) (.tmp 10) rfl _ _ ?_ ?_ P.out ?_);(next=>rfl);(next=>rfl)))
 (try simp only [Exit.inBlock,Exit.then])
 refine bodyPost_ret (g4o rfl rfl L.out) rfl ?_;exact ⟨rfl,BL.out⟩
theorem k6a {w:World} {B:Blk} {d:St} {t:T} {a:Lys} (h:Sto w B d t a):Calls Tryz.prog 36 #[ptr B.ss] w fun e w'=>∃ c,e=.returned (poV t.pool c)/\PoAt w' t.pool c/\Below w.heap.size w w'/\g2m w.heap.size c:=by
 have b1:=Pool.g0a w (.cells poZ 70);have AZ:=hid (at_new w poZ 70);have HF:=hid h.few;have S1:=hid (h.below b1);obtain ⟨W1,hW1⟩:∃ W1,w.alloc (.cells poZ 70)=W1:=⟨_,rfl⟩;rw [hW1] at AZ S1 b1;have B1:=hid b1;have bD:Below W1.heap.size W1 W1.drew:=(Below.refl _ _).drew;have BD:=hid bD;have KS:∀ w',Below W1.heap.size W1 w'->w'.cell? ⟨B.ss,16,none⟩=some (.int .i64 t.pool.high)/\w'.cell? ⟨B.ss,17,none⟩=some (.slice a.p.A1 t.pool.free.length a.p.c1)/\w'.cell? ⟨B.ss,18,none⟩=some (.slice a.p.A2 t.pool.limbo.length a.p.c2):=fun w' hb=>by
  have:=(S1.out.below hb).cells;exact ⟨this.2.1,this.2.2.1,this.2.2.2.1⟩
 have HK:=hid KS;have K0:=hid (KS _ bD);have c1:=h5i a.p.A1 _ a.p.c1 t.pool.free W1.drew (S1.out.pool.f.below bD) HF.out.1;have C2:=hid (show ∀ w',Below W1.heap.size W1 w'->Calls Tryz.prog 82 #[.slice a.p.A2 t.pool.limbo.length a.p.c2] w' (p2e t.pool.limbo w') from fun w' hb=>h5i a.p.A2 _ a.p.c2 t.pool.limbo w' (S1.out.pool.l.below hb) HF.out.2);have NB:=hid (show w.heap.size≠B.ss from fun e=>Nat.lt_irrefl w.heap.size (by rw (occs:=.pos [1]) [e];exact h.box.1))
 have SZ:=hid (show w.heap.size<W1.heap.size from AZ.out.1);unfold poZ at hW1;clear KS bD b1 h;go_enter Tryz.func36,Tryz.ntmps36
 go_wp2_with fail
 clear hW1;go_region_held3 (fun w'=>w'.cell? ⟨B.ss,16,none⟩=some (.int .i64 t.pool.high)/\w'.cell? ⟨B.ss,17,none⟩=some (.slice a.p.A1 t.pool.free.length a.p.c1)/\w'.cell? ⟨B.ss,18,none⟩=some (.slice a.p.A2 t.pool.limbo.length a.p.c2))
  (with_reducible (first | exact K0.out | exact K1.out | exact K2.out | exact K3.out))
  (first
    | (go_at_call 82;(with_reducible refine c1.mono ?_);rintro e w1 ⟨X1,n1,d1,rfl,hN1,hb1,hf1⟩
       have Bw1:=hid (BD.out.trans hb1);have K1:=hid (HK.out _ Bw1.out);have HN1:=hid hN1;have HF1:=hid hf1;have c2:=C2.out w1 Bw1.out;clear hN1 hb1 hf1 c1)
    | (go_at_call 82;(with_reducible refine c2.mono ?_);rintro e w2 ⟨X2,n2,d2,rfl,hN2,hb2,hf2⟩
       have Bw2:=hid (Bw1.out.trans (hb2.mono Bw1.out.size));have K2:=hid (HK.out _ Bw2.out);have AZ2:=hid (AZ.out.below Bw2.out AZ.out.1);have r0:=AZ2.out.2.2 0 _ rfl;have r1:=AZ2.out.2.2 1 _ rfl;have r2:=AZ2.out.2.2 2 _ rfl;have fz:=AZ2.out.2.1;have A3:=hid (Pool.g6v AZ2.out rfl (.int .i64 t.pool.high) (.slice X1 n1 d1) (.slice X2 n2 d2));have B3:=hid (Pool.g2t (B1.out.trans (Bw2.out.mono B1.out.size)) (Nat.le_refl _) (.int .i64 t.pool.high) (.slice X1 n1 d1) (.slice X2 n2 d2))
       have G3:=hid ((Mod.refl [w.heap.size] w2).grown (Pool.h2l w2 w.heap.size (.int .i64 t.pool.high) (.slice X1 n1 d1) (.slice X2 n2 d2)) (fun k e=>.inl (by cases e;simp)));have K3:=hid (show _/\_/\_ from ⟨(G3.out.cell (p:=⟨B.ss,16,none⟩) (Nat.lt_of_lt_of_le S1.out.box.1 Bw2.out.size) (by have:=NB.out;simp;omega)).trans K2.out.1,(G3.out.cell (p:=⟨B.ss,17,none⟩) (Nat.lt_of_lt_of_le S1.out.box.1 Bw2.out.size) (by have:=NB.out;simp;omega)).trans K2.out.2.1,(G3.out.cell (p:=⟨B.ss,18,none⟩) (Nat.lt_of_lt_of_le S1.out.box.1 Bw2.out.size) (by have:=NB.out;simp;omega)).trans K2.out.2.2⟩)
       have hof:∀ {A:Option Addr} {m:Nat},W1.heap.size<=m->(∀ x,A=some x->m<=x.block)->Off [w.heap.size] A:=fun hm hA x e hx=>by
        have h1:=hA x e;have h2:x.block=w.heap.size:=by simpa using hx
        have:=SZ.out;omega
       obtain rfl:=hN2.len;obtain rfl:=HN1.out.len;have HP:=hid (show PoAt _ t.pool {A1:=X1,c1:=d1,A2:=X2,c2:=d2} from ⟨h3x (HN1.out.below hb2) G3.out (hof BD.out.size HF1.out),h3x hN2 G3.out (hof Bw1.out.size hf2)⟩);have HFr:=hid (show g2m w.heap.size {A1:=X1,c1:=d1,A2:=X2,c2:=d2} from ⟨fun x e=>Nat.le_trans (Nat.le_of_lt (Nat.lt_of_lt_of_le SZ.out BD.out.size)) (HF1.out x e),fun x e=>Nat.le_trans (Nat.le_of_lt (Nat.lt_of_lt_of_le SZ.out Bw1.out.size)) (hf2 x e)⟩)
       unfold Pool.set3 at K3;clear hN2 hb2 hf2 hof))
 have L:=hid (k6x (o:=0) A3.out t.pool {A1:=X1,c1:=d1,A2:=X2,c2:=d2} rfl);unfold Pool.set3 at L HP B3;clear r0 r1 r2 fz K0 K1 K2 K3 c2;go_wp2_with fail
 (try simp only [Exit.inBlock,Exit.then])
 refine bodyPost_ret (g4o rfl rfl L.out) rfl ?_;exact ⟨_,rfl,HP.out,B3.out,HFr.out⟩
def p3v (d:St) (n:Int) (w:World) (e:Ending) (w':World):Prop:=Below w.heap.size w w' /\
 ((d.readE n≠0/\e=.returned (.tuple #[g6o,numV (d.readE n)])) \/
  (d.readE n=0/\((∃ p y,e=.returned (.tuple #[pgV p y,numV 0])/\g0c w' p y/\PgOk p/\g0v n (d.readB n) p/\p.kind≠4/\Page.New p y w.heap.size)\/(e=.returned (.tuple #[g6o,numV 50])/\∀ p,g0v n (d.readB n) p->p.kind=4))))
theorem g9c {w:World} {B:Blk} {d:St} {t:T} {a:Lys} (h:Sto w B d t a) (n:Int):Calls Tryz.prog 100 #[ptr B.ss,.int .i64 n] w (p3v d n w):=by
 have b1:=Pool.g0a w (.cells pgZ 103);have AZ:=hid (at_new w pgZ 103);have S1:=h.below b1;have B1:=hid b1;obtain ⟨W1,hW1⟩:∃ W1,w.alloc (.cells pgZ 103)=W1:=⟨_,rfl⟩;rw [hW1] at AZ S1 B1;have cR:=h3q S1.dev n;have c0:=S1.cells.1;unfold pgZ at hW1;clear b1 h S1;go_enter Tryz.func100,Tryz.ntmps100
 go_wp2_with fail
 refine cR.mono ?_;rintro e w1 ⟨b2,hd⟩;have B2:=hid (B1.out.trans (b2.mono B1.out.size));have AZ2:=hid (AZ.out.below b2 AZ.out.1);have SZ:=hid AZ.out.1;clear b2 cR hW1 c0 AZ B1;rcases hd with ⟨he,rfl⟩ | ⟨he,⟨p,y,rfl,hr,hok,hq,hw⟩ | ⟨rfl,hno⟩⟩
 ·have HE:=hid he;have d1:(d.readE n != 0)=true:=by simp [he]
  have b3:=Pool.g0a w1 (.cells (pgC {kind:=0} {}) 103);have P1:=hid (g1s w1 {kind:=0} {});have AZ3:=AZ2.out.below b3 AZ2.out.1;have R:=hid (g1e (o:=0) AZ3 {kind:=0} {} (by simp));have A4:=show At _ w.heap.size (pgC {kind:=0} {}) from g2o AZ3 (vs:=(pgC {kind:=0} {}).toList) (o:=0) (by simp) rfl
  have L:=hid (g2s (o:=0) A4 {kind:=0} {} rfl);have B4:=hid ((B2.out.trans (b3.mono B2.out.size)).grown (g0n (pgC {kind:=0} {}).toList 0 _ w.heap.size) (Nat.le_trans B2.out.size b3.size) (fun k hk=>by cases hk;exact Nat.le_refl _));obtain ⟨er,her⟩:∃ er,d.readE n=er:=⟨_,rfl⟩;rw [her] at d1 ⊢;have HER:=hid her;clear her;obtain ⟨pv,hpv⟩:∃ pv,g6o=pv:=⟨_,rfl⟩;rw [show pgV {kind:=0} {}=pv from hpv] at P1
  rw [hpv];have PV:=hid hpv;clear he b3 AZ3 A4 AZ2 B2 hpv;generalize (w1.alloc (.cells (pgC {kind:=0} {}) 103)).setCells w.heap.size 0 (pgC {kind:=0} {}).toList=W9 at *;go_wp2_with (first | ((with_reducible refine Disk.g0b rfl 103 (.tmp 6) (.tmp 18) rfl _ _ ?_ ?_ P1.out ?_);(next=>rfl);(next=>rfl)) | ((with_reducible refine Disk.g0b rfl 103 (.tmp 4) (.tmp 22) rfl _ _ ?_ ?_ R.out ?_);(next=>rfl);(next=>rfl)))
  refine bodyPost_ret (g1m rfl rfl L.out) rfl ?_;exact ⟨B4.out,.inl ⟨HE.out,by rw [HER.out];rfl⟩⟩
 ·have HE:=hid he;have b3:=Pool.g0a w1 (.cells (pgC p y) 103);have P1:=hid (g1s w1 p y);have AZ3:=AZ2.out.below b3 AZ2.out.1;have ck:(w1.alloc (.cells (pgC p y) 103)).cell? ⟨w1.heap.size,0,none⟩=some (.int .i64 p.kind):=(at_new w1 (pgC p y) 103).2.2 0 _ rfl;have HQ:=hid hq
  by_cases hk:p.kind=4
  ·have d2:(p.kind==4)=true:=by simp [hk]
   have R:=hid (g1e (o:=0) AZ3 {kind:=0} {} (by simp));have A4:=show At _ w.heap.size (pgC {kind:=0} {}) from g2o AZ3 (vs:=(pgC {kind:=0} {}).toList) (o:=0) (by simp) rfl
   have L:=hid (g2s (o:=0) A4 {kind:=0} {} rfl);have B4:=hid ((B2.out.trans (b3.mono B2.out.size)).grown (g0n (pgC {kind:=0} {}).toList 0 _ w.heap.size) (Nat.le_trans B2.out.size b3.size) (fun k hk=>by cases hk;exact Nat.le_refl _));have FIN:=hid (show ∀ q,g0v n (d.readB n) q->q.kind=4 from fun q hq'=>by
    obtain rfl:=Page.g6u hq hq';exact hk)
   obtain ⟨pv,hpv⟩:∃ pv,pgV p y=pv:=⟨_,rfl⟩;obtain ⟨kd,hkd⟩:∃ kd,p.kind=kd:=⟨_,rfl⟩;rw [hpv] at P1 ⊢;rw [hkd] at ck d2;clear he hr hok hq hw b3 AZ3 A4 AZ2 B2 hk hpv hkd HQ;generalize (w1.alloc (.cells (pgC p y) 103)).setCells w.heap.size 0 (pgC {kind:=0} {}).toList=W9 at *;generalize w1.alloc (.cells (pgC p y) 103)=W8 at *;go_wp2_with (first | ((with_reducible refine Disk.g0b rfl 103 (.tmp 6) (.tmp 18) rfl _ _ ?_ ?_ P1.out ?_);(next=>rfl);(next=>rfl)) | ((with_reducible refine Disk.g0b rfl 103 (.tmp 4) (.tmp 27) rfl _ _ ?_ ?_ R.out ?_);(next=>rfl);(next=>rfl)))
   refine bodyPost_ret (g1m rfl rfl L.out) rfl ?_;exact ⟨B4.out,.inr ⟨HE.out,.inr ⟨rfl,FIN.out⟩⟩⟩
  ·have d2:(p.kind==4)=false:=by simp [hk]
   have LD:=hid (g1c (o:=0) (at_new w1 (pgC p y) 103) p y rfl);have R:=hid (g1e (o:=0) AZ3 p y (by simp));have A4:=show At _ w.heap.size (pgC p y) from g2o AZ3 (vs:=(pgC p y).toList) (o:=0) (by simp) rfl
   have L:=hid (g2s (o:=0) A4 p y rfl);have B4:=hid ((B2.out.trans (b3.mono B2.out.size)).grown (g0n (pgC p y).toList 0 _ w.heap.size) (Nat.le_trans B2.out.size b3.size) (fun k hk=>by cases hk;exact Nat.le_refl _));have FIN:=hid (show g0c ((w1.alloc (.cells (pgC p y) 103)).setCells w.heap.size 0 (pgC p y).toList) p y/\PgOk p/\p.kind≠4/\Page.New p y w.heap.size from
    ⟨(hr.below b3).apart (g0n (pgC p y).toList 0 _ w.heap.size) hw SZ.out,hok,hk,hw.mono (Nat.le_of_lt SZ.out)⟩)
   obtain ⟨pv,hpv⟩:∃ pv,pgV p y=pv:=⟨_,rfl⟩;obtain ⟨kd,hkd⟩:∃ kd,p.kind=kd:=⟨_,rfl⟩;rw [hpv] at P1 LD R L ⊢;rw [hkd] at ck d2;have PV:=hid hpv;clear he hr hok hq hw b3 AZ3 A4 AZ2 B2 hk hpv hkd;generalize (w1.alloc (.cells (pgC p y) 103)).setCells w.heap.size 0 (pgC p y).toList=W9 at *;generalize w1.alloc (.cells (pgC p y) 103)=W8 at *;go_wp2_with (first | ((with_reducible refine Disk.g0b rfl 103 (.tmp 6) (.tmp 18) rfl _ _ ?_ ?_ P1.out ?_);(next=>rfl);(next=>rfl)) | ((with_reducible refine Disk.g0d rfl 103 (.tmp 6) rfl _ ?_ LD.out ?_);(next=>rfl)) | ((with_reducible refine Disk.g0b rfl 103 (.tmp 4) (.tmp 28) rfl _ _ ?_ ?_ R.out ?_);(next=>rfl);(next=>rfl)))
   refine bodyPost_ret (g1m rfl rfl L.out) rfl ?_;exact ⟨B4.out,.inr ⟨HE.out,.inl ⟨p,y,by rw [PV.out];rfl,FIN.out.1,FIN.out.2.1,HQ.out,FIN.out.2.2⟩⟩⟩
 ·have HE:=hid he;have b3:=Pool.g0a w1 (.cells (pgC {kind:=0} {}) 103);have P1:=hid (g1s w1 {kind:=0} {});have AZ3:=AZ2.out.below b3 AZ2.out.1;have R:=hid (g1e (o:=0) AZ3 {kind:=0} {} (by simp));have A4:=show At _ w.heap.size (pgC {kind:=0} {}) from g2o AZ3 (vs:=(pgC {kind:=0} {}).toList) (o:=0) (by simp) rfl
  have L:=hid (g2s (o:=0) A4 {kind:=0} {} rfl);have B4:=hid ((B2.out.trans (b3.mono B2.out.size)).grown (g0n (pgC {kind:=0} {}).toList 0 _ w.heap.size) (Nat.le_trans B2.out.size b3.size) (fun k hk=>by cases hk;exact Nat.le_refl _));have HN:=hid hno;obtain ⟨pv,hpv⟩:∃ pv,g6o=pv:=⟨_,rfl⟩;rw [show pgV {kind:=0} {}=pv from hpv] at P1;rw [hpv];have PV:=hid hpv;clear he b3 AZ3 A4 AZ2 B2 hno hpv
  generalize (w1.alloc (.cells (pgC {kind:=0} {}) 103)).setCells w.heap.size 0 (pgC {kind:=0} {}).toList=W9 at *;go_wp2_with (first | ((with_reducible refine Disk.g0b rfl 103 (.tmp 6) (.tmp 18) rfl _ _ ?_ ?_ P1.out ?_);(next=>rfl);(next=>rfl)) | ((with_reducible refine Disk.g0b rfl 103 (.tmp 4) (.tmp 22) rfl _ _ ?_ ?_ R.out ?_);(next=>rfl);(next=>rfl)))
  refine bodyPost_ret (g1m rfl rfl L.out) rfl ?_;exact ⟨B4.out,.inr ⟨HE.out,.inr ⟨rfl,fun p hp=>absurd hp (HN.out p)⟩⟩⟩
open Pool (Po NAt PoAt La poC poV numV At g0k g1g g1k g2m g0g OwnI chunks layAll)
theorem j3f:∀ (l:List Int),(chunks l).length=(l.length+199) / 200:=by
 intro l;obtain ⟨n,hn⟩:∃ n,l.length=n:=⟨_,rfl⟩
 induction n using Nat.strongRecOn generalizing l with
 | ind n ih =>
  by_cases h:l.length=0
  ·rw [List.eq_nil_of_length_eq_zero h];rfl
  ·rw [Pool.g6c l h,List.length_cons,ih (l.drop 200).length (by rw [List.length_drop];omega) _ rfl,List.length_drop];omega
def many (p:Po):Nat:=(chunks (layAll p.free p.limbo)).length
theorem h3y (p:Po):many p=(p.free.length+p.limbo.length+199) / 200:=by rw [many,j3f,Pool.g8w]
inductive g5m (N:Int):T->List Int->T->List Int->Int->Prop
 | done {t own}:many t.pool<=own.length->g5m N t own t own 0
 | fail {t own}:own.length<many t.pool->(g0h t N).2.2≠0->g5m N t own (g0h t N).1 own (g0h t N).2.2
 | step {t own t' own' x}:own.length<many t.pool->(g0h t N).2.2=0->g5m N (g0h t N).1 (own++[(g0h t N).2.1]) t' own' x->g5m N t own t' own' x
theorem h5q (t:T) (N:Int):many (g0h t N).1.pool<=many t.pool:=by
 rw [g0h]
 by_cases h:(g0k t.pool N).2.2=0
 ·rw [if_pos h,h3y,h3y];have h1:(g0k t.pool N).1.free.length<=t.pool.free.length/\(g0k t.pool N).1.limbo.length<=t.pool.limbo.length:=by
   unfold g0k;rcases t.pool.free with _ | ⟨x,fs⟩
   ·simp only
    split <;> simp
   ·simp
  show ((g0k t.pool N).1.free.length+(g0k t.pool N).1.limbo.length+199) / 200<=_;omega
 ·rw [if_neg h];exact Nat.le_refl _
abbrev draC (B:Blk) (p:Pg) (y:Lay) (v:Value):Array Value:=#[ptr B.ss,.int .i64 p.kind,.slice y.A1 p.pairs.length y.c1,.slice y.A2 p.keys.length y.c2,.slice y.A3 p.kids.length y.c3,.slice y.A4 p.pages.length y.c4,.int .i64 p.next,.int .u64 (p.epoch:Int),.int .i64 p.root,.int .i64 p.depth,.int .i64 p.count,.int .i64 p.high,v]
abbrev Fr (B:Blk) (cb:Nat) (w w':World):Prop:=Mod (cb :: B.all) w w'
theorem Fr.refl (B:Blk) (cb:Nat) (w:World):Fr B cb w w:=Mod.refl _ w
theorem Fr.trans {B:Blk} {cb:Nat} {a b c:World} (h:Fr B cb a b) (k:Fr B cb b c):Fr B cb a c:=Mod.trans h k
theorem Fr.of_mod {B:Blk} {cb:Nat} {w w':World} (h:Mod B.all w w'):Fr B cb w w':=h.mono (fun _ hx=>List.mem_cons_of_mem _ hx)
structure SepB (g:Nat) (t:T) (a:Lys):Prop where
 o:t.own≠[]->Off [g] a.o
 bf:t.base.free≠[]->Off [g] a.b.A1
 bl:t.base.limbo≠[]->Off [g] a.b.A2
 pf:t.pool.free≠[]->Off [g] a.p.A1
 pl:t.pool.limbo≠[]->Off [g] a.p.A2
def Sep (v:Value) (t:T) (a:Lys):Prop:=∀ g,v.ownBlock=some g->SepB g t a
theorem k0q {w:World} {A:Option Addr} {n c:Nat} {l:List Int} (h:NAt w A n c l) (hne:l≠[]):∀ x,A=some x->x.block<w.heap.size:=fun x e=>by
 obtain ⟨b,o,e',hlt,_⟩:=h.row hne;rw [e] at e';cases e';exact hlt
theorem Off.cons {B:Blk} {x:Nat} {A:Option Addr} (h:Off B.off A) (k:Off [x] A):Off (Blk.off {B with xs:=x :: B.xs}) A:=fun y e hy=>by
 unfold Blk.off at hy;rcases List.mem_append.1 hy with g | g
 ·exact h y e (List.mem_append_left _ g)
 ·rcases List.mem_cons.1 g with g | g
  ·exact k y e (by rw [g];simp)
  ·exact h y e (List.mem_append_right _ g)
theorem Sto.addx {w:World} {B:Blk} {d:St} {t:T} {a:Lys} (h:Sto w B d t a) {x:Nat} (hx:x<w.heap.size) (k:SepB x t a):Sto w {B with xs:=x :: B.xs} d t a :=
 {box:=h.box,dev:=h.dev,fr:=h.fr,n1:=h.n1,n2:=h.n2,own:=h.own,base:=h.base,pool:=h.pool,ao:=fun e=>(h.ao e).cons (k.o e),ab:=⟨fun e=>(h.ab.1 e).cons (k.bf e),fun e=>(h.ab.2 e).cons (k.bl e)⟩,ap:=⟨fun e=>(h.ap.1 e).cons (k.pf e),fun e=>(h.ap.2 e).cons (k.pl e)⟩,
  xl:=fun y hy=>(List.mem_cons.1 hy).elim (fun e=>by rw [e];exact hx) (h.xl y),ok:=h.ok,bare:=h.bare,bk:=h.bk,pk:=h.pk}
theorem Off.one {B:Blk} {x:Nat} (hx:x∈B.xs) {A:Option Addr} (h:Off B.off A):Off [x] A:=h.mono (fun y hy=>by
 rw [List.mem_singleton] at hy;rw [hy];exact List.mem_append_right _ hx)
theorem Sto.sepx {w:World} {B:Blk} {d:St} {t:T} {a:Lys} (h:Sto w B d t a) {x:Nat} (hx:x∈B.xs):SepB x t a :=
 ⟨fun e=>(h.ao e).one hx,fun e=>(h.ab.1 e).one hx,fun e=>(h.ab.2 e).one hx,fun e=>(h.ap.1 e).one hx,fun e=>(h.ap.2 e).one hx⟩
structure Dr (w:World) (cb:Nat) (B:Blk) (d:St) (t:T) (a:Lys) (p:Pg) (y:Lay) (v:Value) (own:List Int):Prop where
 sto:Sto w B d t a
 box:At w cb (draC B p y v)
 low:∀ x∈B.all,x<cb
 lowx:∀ x∈B.xs,x<cb
 own:OwnI w (cb+1) v own
 cbs:SepB cb t a
theorem g1v {w:World} {lo:Nat} {v:Value} {l:List Int} (h:OwnI w lo v l) {g:Nat} (hg:v.ownBlock=some g):lo<=g/\g<w.heap.size:=by
 have:=World.ownsRow.lt h g hg;exact ⟨this.1,this.2⟩
theorem h2w {w w':World} {S:List Nat} {lo:Nat} {v:Value} {l:List Int} (h:OwnI w lo v l) (m:Mod S w w') (hs:∀ x∈S,x<lo):OwnI w' lo v l:=by
 obtain ⟨hl,h | ⟨g,cap,cur,rfl,hg,hh,h4,h5,h6,h7⟩⟩:=h
 ·exact ⟨hl,.inl h⟩
 ·exact ⟨hl,.inr ⟨g,cap,cur,rfl,hg,by rw [m.block g (Array.getElem?_eq_some_iff.1 hh).1 (fun e=>by have:=hs g e;omega)];exact hh,h4,h5,h6,h7⟩⟩
theorem Dr.step {w w':World} {cb:Nat} {B:Blk} {d d':St} {t t':T} {a a':Lys} {p:Pg} {y:Lay} {v:Value} {own:List Int} (h:Dr w cb B d t a p y v own) (s:Sto w' B d' t' a') (m:Mod B.all w w') (c:SepB cb t' a'):Dr w' cb B d' t' a' p y v own :=
 ⟨s,g0l h.box m (fun e=>Nat.lt_irrefl _ (h.low _ e)),h.low,h.lowx,h2w h.own m (fun x hx=>Nat.lt_succ_of_lt (h.low x hx)),c⟩
theorem Dr.below {w w':World} {cb:Nat} {B:Blk} {d:St} {t:T} {a:Lys} {p:Pg} {y:Lay} {v:Value} {own:List Int} (h:Dr w cb B d t a p y v own) (b:Below w.heap.size w w'):Dr w' cb B d t a p y v own:=h.step (h.sto.below b) (g0u b) h.cbs
theorem Sto.other {w w':World} {B:Blk} {d:St} {t:T} {a:Lys} (h:Sto w B d t a) {g:Nat} (m:Mod [g] w w') (hg:g∉B.all) (k:SepB g t a):Sto w' B d t a:=by
 have e1 : ∀ x ∈ B.all, x ∉ [g] := fun x hx e => hg (by have : x = g := by simpa using e
                                                        rw [<- this];exact hx)
 exact {box:=g0l h.box m (e1 _ (by simp [Blk.all])),dev:=h.dev.kept m (e1 _ (by simp [Blk.all])) (e1 _ (by simp [Blk.all])) (e1 _ (by simp [Blk.all])),fr:=h.fr.of_block (m.block _ h.fr.lt (e1 _ (by simp [Blk.all]))),n1:=h.n1,n2:=h.n2,own:=g4n h.own m k.o,base:=⟨g4n h.base.f m k.bf,g4n h.base.l m k.bl⟩,pool:=⟨g4n h.pool.f m k.pf,g4n h.pool.l m k.pl⟩,ao:=h.ao,ab:=h.ab,ap:=h.ap,xl:=fun x hx=>Nat.lt_of_lt_of_le (h.xl x hx) m.size,ok:=h.ok,bare:=h.bare,bk:=h.bk,pk:=h.pk}
theorem j7o {g:Nat}:(Value.slice none 0 0).ownBlock≠some g:=fun e=>by cases e
theorem Sep.nil (t:T) (a:Lys):Sep (.slice none 0 0) t a:=fun _ e=>absurd e j7o
theorem k5o (t:T) (N:Int):(g0h t N).1.own=t.own/\(g0h t N).1.base=t.base/\(g0h t N).1.sup=t.sup/\(g0h t N).1.fresh=t.fresh/\((g0h t N).1.pool.free≠[]->t.pool.free≠[])/\((g0h t N).1.pool.limbo≠[]->t.pool.limbo≠[]):=by
 rw [g0h]
 by_cases h:(g0k t.pool N).2.2=0
 ·rw [if_pos h];refine ⟨rfl,rfl,rfl,rfl,?_⟩;show ((g0k t.pool N).1.free≠[]->_)/\((g0k t.pool N).1.limbo≠[]->_);unfold g0k;rcases t.pool.free with _ | ⟨x,fs⟩
  ·simp only
   split <;> simp
  ·simp
 ·rw [if_neg h];exact ⟨rfl,rfl,rfl,rfl,id,id⟩
theorem SepB.take {n:Nat} {t:T} {N:Int} {a a':Lys} {g:Nat} (h:SepB g t a) (hl:Lyt n a a') (hg:g<n):SepB g (g0h t N).1 a':=by
 obtain ⟨p1,p2,_,_,p5,p6⟩:=k5o t N;have fr:∀ {A:Option Addr},(∀ x,A=some x->n<=x.block)->Off [g] A:=fun hA x e hx=>by
  have h1:=hA x e;rw [List.mem_singleton] at hx;omega
 refine ⟨fun hne=>by rw [hl.1];exact h.o (by rw [p1] at hne;exact hne),fun hne=>by rw [hl.2.1];exact h.bf (by rw [p2] at hne;exact hne),fun hne=>by rw [hl.2.1];exact h.bl (by rw [p2] at hne;exact hne),fun hne=>?_,fun hne=>?_⟩
 ·rcases hl.2.2 with e | e
  ·rw [e];exact h.pf (p5 hne)
  ·exact fr e.1
 ·rcases hl.2.2 with e | e
  ·rw [e];exact h.pl (p6 hne)
  ·exact fr e.2
theorem SepB.new {w:World} {B:Blk} {d:St} {t:T} {a:Lys} (s:Sto w B d t a) {g:Nat} (hg:w.heap.size<=g):SepB g t a:=by
 have k:∀ {A:Option Addr} {n c:Nat} {l:List Int},NAt w A n c l->l≠[]->Off [g] A:=fun hN hne x ex hx=>by
  have h1:=k0q hN hne x ex;rw [List.mem_singleton] at hx;omega
 exact ⟨fun hne=>k s.own hne,fun hne=>k s.base.f hne,fun hne=>k s.base.l hne,fun hne=>k s.pool.f hne,fun hne=>k s.pool.l hne⟩
theorem Sep.more {w:World} {B:Blk} {d:St} {t:T} {a:Lys} {v v':Value} (h:Sep v t a) (s:Sto w B d t a) (hv:v'.ownBlock=v.ownBlock\/v'.ownBlock=some w.heap.size):Sep v' t a:=by
 rcases hv with e | e
 ·exact fun g hg=>h g (e ▸ hg)
 ·exact fun g hg=>SepB.new s (by rw [e] at hg;cases hg;exact Nat.le_refl _)
theorem g2f {w:World} {cb:Nat} {B:Blk} {p:Pg} {y:Lay} {v:Value} (h:At w cb (draC B p y v)):w.cell? ⟨cb,0,none⟩=some (ptr B.ss)/\w.cell? ⟨cb,12,none⟩=some v:=⟨h.2.2 0 _ rfl,h.2.2 12 _ rfl⟩
theorem g5y {w:World} {lo:Nat} {v:Value} {l:List Int} (h:OwnI w lo v l):∃ A c,v=.slice A l.length c/\NAt w A l.length c l:=by
 obtain ⟨A,n,c,e,hN,_⟩:=Pool.g3v h;obtain rfl:=hN.len;exact ⟨A,c,e,hN⟩
theorem k8y {w:World} {cb:Nat} {B:Blk} {p:Pg} {y:Lay} {v:Value} {lo:Nat} {own:List Int} (hb:At w cb (draC B p y v)) (ho:OwnI w lo v own) (k:Nat) (hk:k<own.length) (hm:own.length<=100000) :
 Calls Tryz.prog 158 #[ptr cb,.int .i64 (k:Int)] w fun e w'=>e=.returned (numV (own.getD (k+1) 0))/\w=w':=by
 obtain ⟨A,c,rfl,hN⟩:=g5y ho;have c12:=(g2f hb).2;have hw:IntKind.i64.wrap ((k:Int)+1)=(k:Int)+1:=IntWalk.i64_in _ (by omega)
 by_cases h1:k+1=own.length
 ·have d1:(((k:Int)+1)==(own.length:Int))=true:=by simp;omega
  have EQ:=hid (show own.getD (k+1) 0=0 from by rw [List.getD_eq_getElem?_getD,List.getElem?_eq_none (by omega)];rfl);clear hN ho hb h1 hk hm;go_enter Tryz.func158,Tryz.ntmps158
  go_wp2_with fail
  go_ret
  exact ⟨by rw [EQ.out];rfl,rfl⟩
 ·have d1:(((k:Int)+1)==(own.length:Int))=false:=beq_eq_false_iff_ne.2 (by omega);obtain ⟨b,o,rfl,hlt,hc⟩:=hN.row (by intro e;rw [e] at hk;simp at hk);have hc1:=hc (k+1) (by omega);have EQ:=hid (show own.getD (k+1) 0=own[k+1]'(by omega) from by rw [List.getD_eq_getElem?_getD,List.getElem?_eq_getElem (by omega)];rfl);have hlt2:k+1<own.length:=by omega
  obtain ⟨m,hm'⟩:∃ m,own.length=m:=⟨_,rfl⟩;obtain ⟨z,hz⟩:∃ z,own[k+1]'(by omega)=z:=⟨_,rfl⟩;rw [hz] at hc1 EQ;rw [hm'] at c12 d1 hlt2;clear hN ho hb h1 hk hm hc hz hm';go_enter Tryz.func158,Tryz.ntmps158
  go_wp2_with fail
  go_ret
  exact ⟨by rw [EQ.out];rfl,rfl⟩
theorem cell1 (W:World) (x:Int):RowG (W.alloc (.cells #[.int .i64 x] 3)) numV (some ⟨W.heap.size,0,none⟩) [x]:=fun _ =>
 ⟨W.heap.size,0,rfl,by simp,fun k hk=>by
  obtain rfl:k=0:=by simp at hk;omega
  exact (Pool.cell1 W (.int .i64 x) 3).1⟩
def p1k (cb:Nat) (B:Blk) (lo:Nat) (p:Pg) (y:Lay) (R:St->T->List Int->Int->Prop) (w:World) (e:Ending) (w':World):Prop:=∃ d' t' own' x,e=.returned (numV x)/\R d' t' own' x/\(∃ a' v',Dr w' cb B d' t' a' p y v' own')/\Fr B lo w w'
def lenV:Value->Nat
 | .slice _ n _=>n
 | _=>0
structure p1c (w:World) (cb:Nat) (B:Blk) (d:St) (t0:T) (own0:List Int) (p:Pg) (y:Lay) (K:Nat) (t:T) (a:Lys) (v:Value) (own:List Int) (wr:World):Prop where
 dr:Dr wr cb B d t a p y v own
 sep:Sep v t a
 fr:Fr B cb w wr
 up:∀ g,v.ownBlock=some g->w.heap.size<=g
 many:many t.pool<=K
 len:own.length<=K
 rest:∀ t' own' x,g5m d.n t own t' own' x->g5m d.n t0 own0 t' own' x
theorem k2j {w:World} {cb:Nat} {B:Blk} {d:St} {t:T} {a:Lys} {p:Pg} {y:Lay} (h:Dr w cb B d t a p y (.slice none 0 0) []) :
 Calls Tryz.prog 106 #[ptr cb] w (p1k cb B cb p y (fun d' t' own' x=>d'=d/\g5m d.n t [] t' own' x) w):=by
 obtain ⟨K,hK⟩:∃ K,many t.pool=K:=⟨_,rfl⟩;have HK:Hid (K<=42):=by
  have h1:=k4c h.sto.pk (by have:=h.sto.dev.nle;omega);have h2:=h3y t.pool;exact hid (by omega)
 have H0:Hid (p1c w cb B d t [] p y K t a (.slice none 0 0) [] w):=hid ⟨h,Sep.nil t a,Fr.refl _ _ _,fun _ e=>absurd e j7o,by omega,Nat.zero_le _,fun _ _ _=>id⟩;clear h hK;go_enter Tryz.func106,Tryz.ntmps106
 go_wp2_with fail
 go_loopw [] (fun wr=>∃ t1 a1 v own,p1c w cb B d t [] p y K t1 a1 v own wr) (fun wr=>K-lenV ((wr.cell? ⟨cb,12,none⟩).getD (.bool false)))
 case atStart=>exact ⟨t,a,_,[],H0.out⟩
 case round =>
  obtain ⟨t1,a1,v,own,hr⟩:=hrel;obtain ⟨A,c,rfl,hN⟩:=g5y hr.dr.own;have R:=hid hr;have bD:Below wr.heap.size wr wr.drew:=(Below.refl _ _).drew;have KS:∀ w',Below wr.heap.size wr w'->w'.cell? ⟨cb,0,none⟩=some (ptr B.ss)/\w'.cell? ⟨cb,12,none⟩=some (.slice A own.length c)/\w'.cell? ⟨B.ss,16,none⟩=some (.int .i64 t1.pool.high)/\w'.cell? ⟨B.ss,17,none⟩=some (.slice a1.p.A1 t1.pool.free.length a1.p.c1)/\w'.cell? ⟨B.ss,18,none⟩=some (.slice a1.p.A2 t1.pool.limbo.length a1.p.c2):=fun w' hb=>by
   have g:=hr.dr.below hb;have g1:=g2f g.box;have g2:=g.sto.cells;exact ⟨g1.1,g1.2,g2.2.1,g2.2.2.1,g2.2.2.2.1⟩
  have K0:=hid (KS _ bD);have HKS:=hid KS;have BD:=hid bD;have cL:=Pool.j1f t1.pool a1.p wr.drew (hr.dr.sto.below bD).pool hr.dr.sto.few.1 hr.dr.sto.few.2;unfold poV poC at cL;clear KS bD hN hr;go_wp2_with fail
  go_region_held3 (fun w'=>w'.cell? ⟨cb,0,none⟩=some (ptr B.ss)/\w'.cell? ⟨cb,12,none⟩=some (.slice A own.length c)/\w'.cell? ⟨B.ss,16,none⟩=some (.int .i64 t1.pool.high)/\w'.cell? ⟨B.ss,17,none⟩=some (.slice a1.p.A1 t1.pool.free.length a1.p.c1)/\w'.cell? ⟨B.ss,18,none⟩=some (.slice a1.p.A2 t1.pool.limbo.length a1.p.c2))
   (with_reducible (first | exact K0.out | exact K1.out))
   (first
     | (go_at_call 156;(with_reducible refine cL.mono ?_);rintro e w1 ⟨v2,xs,rfl,ho,hp,hm,hb,hf⟩
        have hq:xs.length=many t1.pool:=by rw [many,<- hm,List.length_map]
        obtain ⟨A2,c2,rfl,-,-,-,-⟩:=OwnG.row ho;have B1:=hid (BD.out.trans hb);have K1:=hid (HKS.out _ B1.out);have HQ:=hid hq;clear ho hp hm hf hb))
  obtain ⟨k0,k12,-,-,-⟩:=K1.out;have D1:=hid (R.out.dr.below B1.out);have F1:=hid (R.out.fr.trans (Fr.of_mod (g0u B1.out)));clear K0 K1 HKS BD cL
  by_cases hlt:own.length<many t1.pool
  ·have cT:=j7k D1.out.sto;obtain ⟨n1,hn1⟩:∃ n1,(g0h t1 d.n).2.1=n1:=⟨_,rfl⟩;obtain ⟨e1,he1⟩:∃ e1,(g0h t1 d.n).2.2=e1:=⟨_,rfl⟩;obtain ⟨t2,ht2⟩:∃ t2,(g0h t1 d.n).1=t2:=⟨_,rfl⟩;rw [hn1,he1,ht2] at cT;have HT:=hid (show (g0h t1 d.n).1=t2/\(g0h t1 d.n).2.1=n1/\(g0h t1 d.n).2.2=e1 from ⟨ht2,hn1,he1⟩);have HLT:=hid hlt;clear hn1 he1 ht2;go_wp2_with fail
   refine cT.mono ?_;rintro e w2 ⟨rfl,⟨a2,s2,hl2⟩,m2⟩;have D2:=hid (D1.out.step s2 m2 (by rw [<- HT.out.1];exact D1.out.cbs.take hl2 D1.out.box.1));have F2:=hid (F1.out.trans (Fr.of_mod m2));have SP2:=hid (show Sep (.slice A own.length c) t2 a2 from by rw [<- HT.out.1];exact fun g hg=>(R.out.sep g hg).take hl2 (g1v D1.out.own hg).2);clear s2 hl2 m2 cT D1 F1 k0 k12
   by_cases h0:e1=0
   ·have d1:(e1 != 0)=false:=by simp [h0]
    have k12:=(g2f D2.out.box).2;have hlk:=HLT.out;have b3:=Pool.g0a w2 (.cells #[.int .i64 n1] 3);have cells:=cell1 w2 n1;obtain ⟨v',w3,hrun,ho3,hg3,hv3⟩:=g1x Pool.g2p (w2.alloc (.cells #[.int .i64 n1] 3)) (cb+1) (.slice A own.length c) own (OwnG.kept D2.out.own b3) (some ⟨w2.heap.size,0,none⟩) 1 1 [n1] rfl (fun e=>by cases e) cells (by have:=R.out.len;have:=HK.out;simp;omega) (by have:=D2.out.box.1;have:=b3.size;omega)
    have hne:∀ g,(Value.slice A own.length c).ownBlock=some g->g∉B.all/\g≠cb:=fun g hg=>by
     have h1:=(g1v D2.out.own hg).1;exact ⟨fun e=>by have:=D2.out.low g e;omega,by omega⟩
    have S3:Sto w3 B d t2 a2:=by
     rcases hv:(Value.slice A own.length c).ownBlock with _ | g
     ·rw [hv] at hg3;exact (D2.out.sto.below b3).below ((Below.refl _ _).grown hg3 (Nat.le_refl _) (fun k e=>by cases e))
     ·rw [hv] at hg3;exact (D2.out.sto.below b3).other ((Mod.refl [g] _).grown hg3 (fun k e=>.inl (by cases e;simp))) (hne g hv).1 (SP2.out g hv)
    have A3:At w3 cb (draC B p y (.slice A own.length c)):=by
     have h1:=D2.out.box.below b3 D2.out.box.1;rcases hv:(Value.slice A own.length c).ownBlock with _ | g
     ·rw [hv] at hg3;exact h1.below ((Below.refl _ _).grown hg3 (Nat.le_refl _) (fun k e=>by cases e)) h1.1
     ·rw [hv] at hg3;exact g0l h1 ((Mod.refl [g] _).grown hg3 (fun k e=>.inl (by cases e;simp))) (by have:=(hne g hv).2;simp;omega)
    have F3:Fr B cb w w3:=(Mod.alloc F2.out (.cells #[.int .i64 n1] 3)).grown hg3 (fun k e=>.inr (R.out.up k e));have U3:∀ g,v'.ownBlock=some g->w.heap.size<=g:=fun g hg=>by
     rcases hv3 with e | e
     ·exact R.out.up g (e ▸ hg)
     ·rw [e] at hg;cases hg;have:=F2.out.size;simp only [World.size_alloc] at *;omega
    have SP3:=SP2.out.more (D2.out.sto.below b3) hv3;obtain ⟨A',c',rfl,hN'⟩:=g5y ho3;have el:(own++[n1]).length=own.length+1:=by simp
    rw [el] at ho3 hv3 hrun SP3 hN' U3;have hcb:∀ g,(Value.slice A' (own.length+1) c').ownBlock=some g->g≠cb:=fun g hg=>by
     have h1:=(g1v ho3 hg).1;omega
    have A4:At (w3.setCell ⟨cb,12,none⟩ (.slice A' (own.length+1) c')) cb (draC B p y (.slice A' (own.length+1) c')):=A3.set 12 _ (by simp);have M4:Mod [cb] w3 (w3.setCell ⟨cb,12,none⟩ (.slice A' (own.length+1) c')):=g0z w3 cb 12 _;have r12:w3.cell? ⟨cb,12,none⟩=some (.slice A own.length c):=A3.2.2 12 _ rfl;have fz:=A3.2.1 12;have hcbn:cb∉B.all:=fun e=>Nat.lt_irrefl _ (D2.out.low cb e)
    have hk2:many t2.pool<=K:=by rw [<- HT.out.1];exact Nat.le_trans (h5q t1 d.n) R.out.many
    have NEW:=hid (show p1c w cb B d t [] p y K t2 a2 (.slice A' (own.length+1) c') (own++[n1]) (w3.setCell ⟨cb,12,none⟩ (.slice A' (own.length+1) c')) from
     {dr:=⟨S3.other M4 hcbn D2.out.cbs,A4,D2.out.low,D2.out.lowx,h2w ho3 M4 (fun x hx=>by rw [List.mem_singleton] at hx;omega),D2.out.cbs⟩,sep:=SP3
      fr:=F3.trans (M4.mono (fun x hx=>by rw [List.mem_singleton] at hx;rw [hx];exact List.mem_cons_self ..)),up:=U3
      many:=hk2,len:=by have:=R.out.many;rw [el];omega
      rest:=fun t' own' x ht=>R.out.rest t' own' x (.step hlk (by rw [HT.out.2.2];exact h0) (by rw [HT.out.1,HT.out.2.1];exact ht))})
    have MS:=hid (show K-lenV (((w3.setCell ⟨cb,12,none⟩ (.slice A' (own.length+1) c')).cell? ⟨cb,12,none⟩).getD (.bool false))<K-lenV ((wr.cell? ⟨cb,12,none⟩).getD (.bool false)) from by
     rw [(g2f A4).2,(g2f R.out.dr.box).2];show K-(own.length+1)<K-own.length;have:=R.out.many;omega)
    have RR:=hid hrun;clear hrun ho3 hg3 hv3 hne S3 A3 U3 F3 SP3 hN' hcb A4 M4 h0 el hcbn hk2 D2 F2 SP2 R HT cells b3;go_wp2_with (first | ((with_reducible refine g0e rfl (.tmp 35) (.tmp 37) 66 rfl ?_ ?_ RR.out ?_);(next=>rfl);(next=>rfl)))
    exact ⟨⟨t2,a2,_,_,NEW.out⟩,MS.out⟩
   ·have d1:(e1 != 0)=true:=by simp [h0]
    have FIN:=hid (show (∃ a' v',Dr w2 cb B d t2 a' p y v' own)/\g5m d.n t [] t2 own e1/\Fr B cb w w2 from ⟨⟨a2,_,D2.out⟩,R.out.rest _ _ _ (by
     have:=g5m.fail (N:=d.n) (t:=t1) (own:=own) HLT.out (by rw [HT.out.2.2];exact h0);rw [HT.out.1,HT.out.2.2] at this;exact this),F2.out⟩)
    clear h0 D2 F2 SP2 R HT;go_wp2_with fail
    go_ret
    exact ⟨d,t2,own,e1,rfl,⟨rfl,FIN.out.2.1⟩,FIN.out.1,FIN.out.2.2⟩
  ·have FIN:=hid (show (∃ a' v',Dr w1 cb B d t1 a' p y v' own)/\g5m d.n t [] t1 own 0/\Fr B cb w w1 from ⟨⟨a1,_,D1.out⟩,R.out.rest _ _ _ (.done (by omega)),F1.out⟩);clear D1 F1 R k0 k12;go_wp2_with fail
   go_ret
   exact ⟨d,t1,own,0,rfl,⟨rfl,FIN.out.2.1⟩,FIN.out.1,FIN.out.2.2⟩
end Go.Proofs.YtglejnkoojpelaaGreat.Store
