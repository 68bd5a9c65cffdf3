import Derived.Test.YtglejnkoojpelaaGreatMT13
import Derived.Test.YtglejnkoojpelaaGreatNT2
import Derived.Deep.WholeRow
import Derived.Deep.OwnRows
import Derived.Test.YtglejnkoojpelaaGreatNT1
set_option maxRecDepth 100000
set_option maxHeartbeats 32000000
namespace Go.Proofs.YtglejnkoojpelaaGreat.Tree
open Go.RowKit Gen
open Disk (St Dev Mod ptr)
open Page (Pg Lay PgOk g0c pgC pgV Enc g0v BytesAt strV strB g0m PRow less Lt g1l g3h)
open Pool (Po NAt PoAt La poC poV numV At g0k g1g g1k g2m g0g OwnI chunks layAll May)
open Store
open Lib (hid)
theorem k0s {α β:Type} (f:α->List β) {L:List α} {i:Nat} (h:i<L.length):(f L[i]).length<=(L.flatMap f).length:=by
 have h1:=h4a f L (i+1);rw [g6h h,List.length_append] at h1;omega
theorem j6l {w0:World} {B:Blk} {d:St} {t:T} {a:Lys} (h:Sto w0 B d t a):∀ (m:Nat) {n:Int} {x:Held} (w:World),Below w0.heap.size w0 w->IsT d (m+1) n x->∀ (lo hi:Disk.Bs),InR lo hi x.1->(hi≠[]->Lt lo hi)->∀ (root:Bool),(root=true\/g6i d n)->m+1<=20->x.1.length<=100000->x.2.length<=100000 ->
 Calls Tryz.prog 58 #[ptr B.ss,.int .i64 n,.int .i64 ((m+1:Nat):Int),strV lo,strV hi,.bool root] w (h9r x.2 x.1.length w)
 | 0,n,x,w,hw,hT,lo,hi,hr,hlo,root,hroot,hm,h1,h2=>by
  obtain ⟨p,hp,rfl⟩:=hT;refine k0z (h.below hw) hp lo hi hr root (hroot.imp id (fun hs=>?_));obtain ⟨k,q,hq,hl⟩:=hs;obtain rfl:=Page.g6u hp.2.1 hq.2.1;unfold g0p g0o at hl;rw [if_pos hp.2.2,if_pos hp.2.2] at hl;exact hl
 | m+1,n,x,w,hw,hT,lo,hi,hr,hlo,root,hroot,hm,h1,h2=>by
  obtain ⟨p,L,hp,hl,hk,hb,rfl⟩:=hT;have hl':L.length=p.keys.length+1:=by rw [hl];exact g3c hp
  have hne:∀ z∈L,z.1≠[]:=fun z hz=>by
   obtain ⟨i,hi',rfl⟩:=List.getElem_of_mem hz;have:=hk i _ _ (List.getElem?_eq_getElem (by omega)) (List.getElem?_eq_getElem hi');exact h9v this.1 this.2
  have h2':(L.flatMap (·.2)).length<=100000:=by
   have:(n :: L.flatMap (·.2)).length<=100000:=h2;rw [List.length_cons] at this;omega
  have ih:∀ (i:Nat) (hi':i<L.length) (x:Int) (W:World),p.kids[i]?=some x->Below w.heap.size w W ->
   Calls Tryz.prog 58 #[ptr B.ss,.int .i64 x,.int .i64 ((m+1:Nat):Int),strV (lowK p.keys lo i),strV (h2b p.keys hi i),.bool false] W (h9r L[i].2 L[i].1.length W):=fun i hi' x W hx hW=>by
   have hkx:=hk i x _ hx (List.getElem?_eq_getElem hi');have hr':=p1o hb hl' hr hi';exact j6l h m W (hw.trans (hW.mono hw.size)) hkx.1 _ _ hr' (fun hh=>p2p hr' (hne _ (List.getElem_mem hi')) hh) false (.inr hkx.2) (by omega) (Nat.le_trans (k0s (·.1) hi') h1) (Nat.le_trans (k0s (·.2) hi') h2')
  cases root with
  | true=>exact k8c (h.below hw) hp L hl hb lo hi hr hne hlo m (by omega) h1 h2' ih
  | false =>
   refine k7l (h.below hw) hp L hl hb lo hi hr hne hlo ?_ m (by omega) h1 h2' ih;obtain ⟨k,q,hq,hl2⟩:=hroot.resolve_left (by decide);obtain rfl:=Page.g6u hp.2.1 hq.2.1;unfold g0p g0o at hl2;rw [if_neg (by rw [hp.2.2];decide),if_neg (by rw [hp.2.2];decide)] at hl2;exact hl2
theorem k4q (x:Disk.Bs):less x []=false:=by cases x <;> rfl
theorem j8l {w:World} {B:Blk} {d:St} {t:T} {a:Lys} (h:Sto w B d t a) {m:Nat} {n:Int} {x:Held} (hT:IsT d (m+1) n x) (hm:m+1<=20) (h1:x.1.length<=100000) (h2:x.2.length<=100000) :
 Calls Tryz.prog 58 #[ptr B.ss,.int .i64 n,.int .i64 ((m+1:Nat):Int),strV [],strV [],.bool true] w (h9r x.2 x.1.length w) :=
 j6l h m w (Below.refl _ _) hT [] [] (fun e _=>⟨fun g=>(by have:less e.1 []=true:=g;rw [k4q] at this;cases this),fun g=>absurd rfl g⟩) (fun g=>absurd rfl g) true (.inl rfl) hm h1 h2
end Go.Proofs.YtglejnkoojpelaaGreat.Tree
namespace Go.Proofs.YtglejnkoojpelaaGreat.Pool
open Go.RowKit Gen
open Lib (hid)
theorem k2s (A:Option Addr) (n c:Nat) (l:List Int) (x:Int) (w:World) (h:NAt w A n c l):Calls Tryz.prog 101 #[.slice A n c,.int .i64 x] w (h4j (x∈l) w):=by
 have HR:=hid h.row;have HL:=hid h.len;have hn:n<=9223372036854775807:=by have h1:=h.cap;have h2:=h.max;unfold maxLen at h2;omega
 clear h;go_enter Tryz.func101,Tryz.ntmps101
 go_wp2_with fail
 go_loop [5] (fun i=>∃ k:Nat,i=.int .i64 (k:Int)/\k<=n/\Hid (∀ j (h:j<l.length),j<k->l[j]≠x)) (fun i=>n-(intOf i).toNat)
 case atStart=>exact ⟨0,rfl,Nat.zero_le _,hid (fun j h hj=>absurd hj (Nat.not_lt_zero j))⟩
 case round =>
  obtain ⟨k,rfl,hk,hQ⟩:=hrel
  by_cases hlt:k<n
  ·have hkl:k<l.length:=by have:=HL.out;omega
   obtain ⟨b,off,rfl,hb,hc⟩:=HR.out (by intro e;subst e;simp at hkl);have hc1:=hc k hkl;have HM:=hid (List.getElem_mem hkl);have HQ:Hid (l[k]≠x->∀ j (h:j<l.length),j<k+1->l[j]≠x):=hid (fun e j hj hjk=>by
    by_cases g:j=k
    ·subst g;exact e
    ·exact hQ.out j hj (by omega))
   generalize l[k]=y at hc1 HM HQ;clear hc hQ
   by_cases hxy:y=x
   ·have d:(y==x)=true:=by simp [hxy]
    have HX:=hid hxy;clear hxy;go_wp2_with fail
    go_ret
    exact ⟨_,rfl,⟨fun _=>by rw [<- HX.out];exact HM.out,fun _=>rfl⟩,Below.refl _ _⟩
   ·have d:(y==x)=false:=by simp [hxy]
    have HN:=hid (HQ.out hxy);clear hxy HQ;go_wp2_with fail
    go_round
    case rel=>exact ⟨k+1,by go_num,by omega,HN⟩
    case measure=>simp [intOf];omega
  ·have HN:Hid (x∉l):=hid (fun hm=>by
    obtain ⟨j,hj,e⟩:=List.getElem_of_mem hm;exact hQ.out j hj (by have:=HL.out;omega) e)
   clear hQ;go_wp2_with fail
   go_ret
   exact ⟨_,rfl,⟨fun h=>(by cases h),fun h=>absurd h HN.out⟩,Below.refl _ _⟩
theorem j8s (p:Po) (a:La) (n:Int) (w:World) (h:PoAt w p a):Calls Tryz.prog 59 #[poV p a,.int .i64 n] w (h4j (n∈p.free\/n∈p.limbo) w):=by
 have hb:=g0a w (.cells (poC p a) 70);have hat:=j0h w p a;have HP:=hid (h.below hb);have HB:=hid hb;have AT:=hid hat;obtain ⟨c0,c1,c2⟩:=g2i hat;clear h hb hat;obtain ⟨W0,hW0⟩:∃ W0,w.alloc (.cells (poC p a) 70)=W0:=⟨_,rfl⟩;rw [hW0] at HP HB AT c0 c1 c2;have cF:=k2s a.A1 _ a.c1 p.free n W0 HP.out.f;unfold poV;go_enter Tryz.func59,Tryz.ntmps59
 go_wp2_with fail
 refine cF.mono ?_;rintro e w1 ⟨r1,rfl,h1,hb⟩;clear hW0 c0 c1 c2 cF;obtain ⟨c0,c1,c2⟩:=g2i (AT.out.below hb AT.out.1);have HB1:=hid (HB.out.trans (hb.mono HB.out.size));have cL:=k2s a.A2 _ a.c2 p.limbo n w1 (HP.out.below hb).l;have H1:=hid h1;clear h1 hb HP AT HB;go_wp2_with fail
 refine cL.mono ?_;rintro e w2 ⟨r2,rfl,h2,hb⟩;clear c0 c1 c2 cL;have HB2:=hid (HB1.out.trans (hb.mono HB1.out.size));have H2:=hid h2;clear h2 hb HB1;rcases r1 with _ | _
 ·have HR:Hid (r2=true↔n∈p.free\/n∈p.limbo):=hid ⟨fun e=>.inr (H2.out.1 e),fun g=>g.elim (fun g=>by cases H1.out.2 g) H2.out.2⟩;clear H1 H2;go_wp2_with fail
  go_ret
  exact ⟨_,rfl,HR.out,HB2.out⟩
 ·have HR:Hid (n∈p.free\/n∈p.limbo):=hid (.inl (H1.out.1 rfl));clear H1 H2;go_wp2_with fail
  go_ret
  exact ⟨_,rfl,⟨fun _=>HR.out,fun _=>rfl⟩,HB2.out⟩
end Go.Proofs.YtglejnkoojpelaaGreat.Pool
namespace Go.Proofs.YtglejnkoojpelaaGreat.Tree
open Go.RowKit Gen
open Disk (St Dev Mod ptr)
open Page (Pg Lay PgOk g0c pgC pgV Enc g0v BytesAt strV strB g0m PRow less Lt g1l g3h)
open Pool (Po NAt PoAt La poC poV numV At g0k g1g g1k g2m g0g OwnI chunks layAll May g2p)
open Store
open Lib (hid)
structure h2z (w:World) (b:Nat) (S:Nat->Bool):Prop where
 lt:b<w.heap.size
 free:∀ j,w.frozen? ⟨b,j,none⟩=false
 cell:∀ k,k<4096->w.cell? ⟨b,k,none⟩=some (.bool (S k))
theorem h2z.below {w w':World} {b:Nat} {S:Nat->Bool} (h:h2z w b S) (hb:Below w.heap.size w w'):h2z w' b S :=
 ⟨Nat.lt_of_lt_of_le h.lt hb.size,fun j=>(hb.frozen (p:=⟨b,j,none⟩) h.lt).trans (h.free j),fun k hk=>(hb.cell (p:=⟨b,k,none⟩) h.lt).trans (h.cell k hk)⟩
def j5k (S:Nat->Bool) (k:Nat):Nat->Bool:=fun j=>if j=k then true else S j
theorem h2z.set {w:World} {b k:Nat} {S:Nat->Bool} (h:h2z w b S) (hk:k<4096):h2z (w.setCell ⟨b,k,none⟩ (.bool true)) b (j5k S k) :=
 ⟨by simpa using h.lt,fun j=>by rw [World.frozen?_setCell];exact h.free j,fun j hj=>by
  unfold j5k
  by_cases e:j=k
  ·subst e;rw [if_pos rfl];exact World.cell?_setCell_same _ _ _ (h.cell j hj)
  ·rw [if_neg e,World.cell?_setCell_other _ _ _ _ (by intro h;injection h with _ h _;exact e h.symm)];exact h.cell j hj⟩
theorem k7n (z:Value) (n i:Nat) (h:i<n):(madeCells #[z] n)[i]?=some z:=by
 rw [<- Array.getElem?_toList,toList_madeCells_one];simp [h]
theorem k2z (w:World):h2z (w.alloc (.cells (madeCells #[.bool false] 4096) 4)) w.heap.size (fun _=>false):=by
 have h:At (w.alloc (.cells (madeCells #[.bool false] 4096) 4)) w.heap.size (madeCells #[.bool false] 4096):=Page.At.of_block (heap_alloc_new w _);exact ⟨h.1,h.2.1,fun k hk=>h.2.2 k _ (k7n _ _ _ hk)⟩
theorem k2y:(Tryz.prog.info? 4).map (fun i=>(i.zero,i.size,i.bytes))=some (some (.bool false),1,1):=by kernel_rfl
theorem k3i (w:World):(Instr.makeSlice 94 (.int .i64 4096) (.int .i64 4096)).run Tryz.prog w=.ok (.slice (some ⟨w.heap.size,0,none⟩) 4096 4096) (w.alloc (.cells (madeCells #[.bool false] 4096) 4)) :=
 run_make_row' (P:=Tryz.prog) 94 4 (.bool false) 1 Tryz.underlying94 k2y rfl .i64 .i64 4096 (by omega) (by omega) w
def j1n (W:World) (g:Nat) (l:List Int) (k:Nat) (w:World):Prop:=Below W.heap.size W w/\∃ S,h2z w g S/\∀ j:Nat,S j=true->∃ i,i<k/\l[i]?=some (j:Int)
theorem j1n.next {W w w':World} {l:List Int} {k:Nat} (h:j1n W W.heap.size l k w) (hnd:l.Nodup) (hk:k<l.length) {j:Nat} (hj:l[k]=(j:Int)) (hlt:j<4096) (b:Below w.heap.size w w') :
 w'.cell? ⟨W.heap.size,j,none⟩=some (.bool false)/\w'.frozen? ⟨W.heap.size,j,none⟩=false/\j1n W W.heap.size l (k+1) (w'.setCell ⟨W.heap.size,j,none⟩ (.bool true)):=by
 obtain ⟨hb,S,hs,hS⟩:=h;have hs':=hs.below b;have hn:S j=false:=by
  rcases e:S j with _ | _
  ·rfl
  ·obtain ⟨i,hi,hli⟩:=hS j e;have h1:l[i]?=l[k]?:=by rw [hli,List.getElem?_eq_getElem hk,hj]
   have:=(List.getElem?_inj (by omega) hnd).1 h1;omega
 refine ⟨by rw [<- hn];exact hs'.cell j hlt,hs'.free j,(hb.trans (b.mono hb.size)).setCell (p:=⟨W.heap.size,j,none⟩) (Nat.le_refl _) _,j5k S j,hs'.set hlt,fun i hi=>?_⟩;unfold j5k at hi
 split at hi
 ·rename_i e
  exact ⟨k,by omega,by rw [List.getElem?_eq_getElem hk,hj,e]⟩
 ·obtain ⟨q,h1,h2⟩:=hS i hi;exact ⟨q,by omega,h2⟩
theorem k4d {w0 w:World} {B:Blk} {tb:Nat} {d:St} {t:T} {r dp c:Int} {es:Ents} {K:Nat} (h:TrOn w0 w B tb d t r dp c) (g:Good d t r dp c es K) (hf:es.length<=400) (ho:t.own.length<=1000) :
 Calls Tryz.prog 19 #[ptr tb] w (fun e w'=>e=.returned (.bool true)/\Below w.heap.size w w'):=by
 obtain ⟨a,st⟩:=h.sto.has;obtain ⟨ps,hb,hT⟩:=h2u g.tree;have hroom:=(g.room (by omega)).1;have hpk:=g.pre.pk;have hnle:=g.pre.nle;obtain ⟨EN,hEN⟩:∃ EN,es.length=EN:=⟨_,rfl⟩;obtain rfl:c=(EN:Int):=by rw [g.cnt,hEN]
 have HEN:=hid hEN;have hEN2:EN<=400:=by omega
 have cS:=j2b h.box;have cD:=h5r h.box;have cR:=j5m h.box;have BX:=hid h.box;have ST:=hid st;have HO:=hid (show t.own.length<=100000 by omega);have FEW:=hid st.few;have HIGH:=hid (show t.pool.high<=4096 by have:=hpk.top;omega);have hcnt2:=hb.acct.cnt;have ALL:=hid (show ∀ x∈ps++t.own,2<=x/\x<t.pool.high/\¬ (x∈t.pool.free\/x∈t.pool.limbo) from fun x hx=>by
  have hm:May t.pool x:=by
   rcases List.mem_append.1 hx with hx | hx
   ·exact hb.acct.may x hx
   ·exact hb.acct.own x hx
  exact ⟨hm.1.1,hm.1.2,fun e=>e.elim hm.2.1 hm.2.2⟩)
 have ND:=hid hb.acct.nd;have CNT:=hid hcnt2;have HPS:=hid (show ps.length<=4096 by have:=hpk.top;omega);clear h g st hb hpk hnle hcnt2 hf hEN ho;go_enter Tryz.func19,Tryz.ntmps19
 go_wp2_with fail
 refine cS.mono ?_;rintro e w' ⟨rfl,rfl⟩;clear cS;go_wp2_with fail
 refine cD.mono ?_;rintro e w' ⟨rfl,rfl⟩;have HT:=hid hT;clear hT;have key:(dp=0/\r=0/\EN=0/\ps=[])\/∃ m:Nat,dp=((m+1:Nat):Int)/\m+1<=20/\IsT d (m+1) r (es,ps):=by
  rcases HT.out with ⟨e1,e2,e3,e4⟩ | ⟨m,e1,e2⟩
  ·exact .inl ⟨e1,e2,by rw [<- HEN.out,e3];rfl,e4⟩
  ·refine .inr ⟨m,e1,?_,e2⟩;rcases hroom with g1 | ⟨m',g1,g2⟩
   ·omega
   ·omega
 clear HT hroom;have cC:=h0j BX.out;rcases key with ⟨rfl,rfl,rfl,hps⟩ | ⟨m,hdp,hm,hT⟩
 clear cD;go_wp2_with fail
 refine cR.mono ?_;rintro e w' ⟨rfl,rfl⟩;clear cR;go_wp2_with fail
 refine cC.mono ?_;rintro e w' ⟨rfl,rfl⟩;clear cC;have HV:=hid (show OwnI w w.heap.size (.slice none 0 0) ps/\Below w.heap.size w w from by rw [hps];exact ⟨⟨rfl,.inl ⟨rfl,rfl⟩⟩,Below.refl _ _⟩);clear hps
 rotate_left
 have d1:(0:Int)<dp:=by omega
 have cF:=j8l ST.out hT hm (by show es.length<=_;have:=HEN.out;omega) (by show ps.length<=_;have:=HPS.out;omega);rw [<- hdp,show (es,ps).1.length=EN from HEN.out] at cF;have cF:Calls Tryz.prog 58 #[ptr B.ss,.int .i64 r,.int .i64 dp,.string ⟨#[]⟩,.string ⟨#[]⟩,.bool true] w (h9r ps EN w):=cF;clear hT hdp hm;go_wp2_with fail
 refine cR.mono ?_;rintro e w' ⟨rfl,rfl⟩;clear cR;go_wp2_with fail
 refine cD.mono ?_;rintro e w' ⟨rfl,rfl⟩;clear cD;go_wp2_with fail
 refine cF.mono ?_;rintro e w2 ⟨v2,rfl,hv2,hb2⟩;have HV:=hid (And.intro hv2 hb2);have cC:=h0j (BX.out.below hb2 BX.out.1);have d2:((EN:Int)==(EN:Int))=true:=by simp
 clear hv2 hb2 cF;go_wp2_with fail
 refine cC.mono ?_;rintro e w' ⟨rfl,rfl⟩;clear cC
 all_goals
  have cL:=k0m (ST.out.below HV.out.2) HO.out;go_wp2_with fail
  refine cL.mono ?_;rintro e w3 ⟨A3,n3,c3,rfl,hN3,b3,-⟩;have B3:=hid (HV.out.2.trans (b3.mono HV.out.2.size));have O3:=HV.out.1.kept b3;obtain ⟨v4,w4,hrun,ho4,hg4,-⟩:=g1x g2p w3 w.heap.size _ _ O3 A3 n3 c3 t.own hN3.len hN3.nil hN3.row (by have:=HPS.out;have:=HO.out;have:=hN3.len;omega) B3.out.size;have B4:=hid (below_grown B3.out O3 hg4 B3.out.size);obtain ⟨A4,c4,rfl,-,-,-,r4⟩:=ho4.row
  obtain ⟨l,hl⟩:∃ l,ps++t.own=l:=⟨_,rfl⟩;rw [hl] at hrun r4 ALL ND;obtain ⟨M,hM⟩:∃ M,l.length=M:=⟨_,rfl⟩;rw [hM] at hrun;have HM:=hid hM;obtain ⟨F,hF⟩:∃ F,t.pool.free.length=F:=⟨_,rfl⟩;obtain ⟨G,hG⟩:∃ G,t.pool.limbo.length=G:=⟨_,rfl⟩;obtain ⟨H,hH⟩:∃ H,t.pool.high=H:=⟨_,rfl⟩;have SUM:(M:Int)+(F:Int)+(G:Int)=H-2/\H<=4096/\F<=100000/\G<=100000:=by
   have h1:=CNT.out;have h2:=HIGH.out;have h3:=FEW.out;have h4:=congrArg List.length hl;rw [List.length_append] at h4;omega
  have HF:=hid hF;have HG:=hid hG;have HH:=hid hH;have R1:=hid hrun;have R4:=hid r4;have cP:=k6a (ST.out.below B4.out);clear hrun r4 hl hM hF hG hH cL hN3 b3 O3 ho4 hg4;go_wp2_with (at_builtin;(refine g0e rfl (.tmp 47) (.tmp 49) _ rfl rfl rfl R1.out ?_;clear R1))
  refine cP.mono ?_;rintro e w5 ⟨cc,rfl,hp5,b5,-⟩;have PP:=hid (j5z w5 t.pool cc);have b6:=Pool.g0a w5 (.cells (poC t.pool cc) 70);have a6:=at_new w5 (poC t.pool cc) 70;obtain ⟨W7,hW7⟩:∃ W7,w5.alloc (.cells (poC t.pool cc) 70)=W7:=⟨_,rfl⟩;rw [hW7] at PP b6 a6;have b7:=b5.trans (b6.mono b5.size);have R7:=hid (RowG.below R4.out b7);have P7:=hid (hp5.below b6);have AT7:=hid a6;have B7:=hid (B4.out.trans (b7.mono B4.out.size))
  have c0:W7.cell? ⟨w5.heap.size,0,none⟩=some (.int .i64 H):=by rw [<- HH.out];exact a6.2.2 0 _ rfl
  have c1:W7.cell? ⟨w5.heap.size,1,none⟩=some (.slice cc.A1 F cc.c1):=by rw [<- HF.out];exact a6.2.2 1 _ rfl
  have c2:W7.cell? ⟨w5.heap.size,2,none⟩=some (.slice cc.A2 G cc.c2):=by rw [<- HG.out];exact a6.2.2 2 _ rfl
  obtain ⟨pb,hpb⟩:∃ pb,w5.heap.size=pb:=⟨_,rfl⟩;have EP:=hid hpb;rw [hpb] at AT7;obtain ⟨Z,hZ⟩:∃ Z,H-2=Z:=⟨_,rfl⟩;have a1:IntKind.i64.wrap ((M:Int)+(F:Int))=(M:Int)+(F:Int):=IntWalk.i64_in _ (by omega);have a2:IntKind.i64.wrap ((M:Int)+(F:Int)+(G:Int))=Z:=by rw [IntWalk.i64_in _ (by omega)];omega
  have a3:IntKind.i64.wrap (H-2)=Z:=by rw [IntWalk.i64_in _ (by omega)];exact hZ
  have d3:(Z==Z)=true:=by simp
  have d4:¬ (4096:Int)<H:=by omega
  have hmk:=k3i W7;have S0:=hid (show j1n W7 W7.heap.size l 0 (W7.alloc (.cells (madeCells #[.bool false] 4096) 4)) from ⟨Pool.g0a W7 _,_,k2z W7,fun j e=>by cases e⟩);have HM4:M<=4096:=by omega
  clear cP hp5 b5 b6 a6 b7 hpb hZ SUM;go_wp2_with (first | ((with_reducible refine Disk.g0b rfl 70 (.tmp 8) (.tmp 52) rfl _ _ ?_ ?_ PP.out ?_);(next=>rfl);(next=>rfl)))
  try rw [EP.out]
  clear PP EP c0 c1 c2 a1 a2 a3 hW7 hmk;go_loopw [10] (fun i wr=>∃ k:Nat,i=.int .i64 (k:Int)/\k<=M/\Hid (j1n W7 W7.heap.size l k wr)) (fun i _=>M-(intOf i).toNat)
  case atStart=>exact ⟨0,rfl,Nat.zero_le _,S0⟩
  case round =>
   obtain ⟨k,rfl,hk,HB⟩:=hrel;clear S0
   by_cases hlt:k<M
   ·have hkl:k<l.length:=by rw [HM.out];exact hlt
    have t1:(k:Int)<(M:Int):=by omega
    have t2:(0:Int)<=(k:Int):=by omega
    have hwr:IntKind.i64.wrap ((k:Int)+1)=(k:Int)+1:=IntWalk.i64_in _ (by omega);obtain ⟨b,off,rfl,hbl,hcl⟩:=R7.out (by intro e;rw [e] at hkl;simp at hkl);have hal:=ALL.out _ (List.getElem_mem hkl);rw [HH.out] at hal;obtain ⟨j,hj⟩:∃ j:Nat,l[k]=(j:Int):=⟨l[k].toNat,by omega⟩;rw [hj] at hal;have q1:wr.cell? ⟨b,off+k,none⟩=some (.int .i64 (j:Int)):=by
     rw [<- hj];exact (HB.out.1.cell (p:=⟨b,off+k,none⟩) hbl).trans (hcl k hkl)
    have KN:=Pool.j8s t.pool cc (j:Int) wr (P7.out.below HB.out.1);have LP:=hid (g7j (o:=0) (AT7.out.below HB.out.1 AT7.out.1) t.pool cc rfl);have NX:=hid (fun (w':World) (hb:Below wr.heap.size wr w')=>HB.out.next ND.out hkl hj (by have:=HIGH.out;rw [HH.out] at this;omega) hb);have CH:=hid (fun (w':World) (hb:Below wr.heap.size wr w')=>show w'.cell? ⟨pb,0,none⟩=some (.int .i64 H) from by
     have b:=HB.out.1.trans (hb.mono HB.out.1.size);rw [<- HH.out];exact (AT7.out.below b AT7.out.1).2.2 0 _ rfl)
    have f1:¬ (j:Int)<2:=by omega
    have f2:¬ H<=(j:Int):=by omega
    have f3:(0:Int)<=(j:Int):=by omega
    have f4:(j:Int)<4096:=by have:=HIGH.out;rw [HH.out] at this;omega
    have NK:=hid hal.2.2;clear hal hcl hbl HB hlt hkl hj;go_wp2_with (first | ((with_reducible refine Disk.g0d rfl 70 (.tmp 8) rfl _ ?_ LP.out ?_);(next=>rfl)))
    refine KN.mono ?_;rintro e w9 ⟨rk,rfl,hr,b9⟩;obtain rfl:rk=false:=by
     rcases rk with _ | _
     ·rfl
     ·exact absurd (hr.1 rfl) NK.out
    obtain ⟨g1,g2,g3⟩:=NX.out w9 b9;have ch:=CH.out w9 b9;have G3:=hid g3;clear hr b9 KN LP q1 NX CH g3 NK;go_wp2_with fail
    go_roundw
    case rel=>exact ⟨k+1,by go_num,by omega,G3⟩
    case measure=>simp [intOf];omega
   ·obtain rfl:k=M:=by omega
    have FIN:=hid (B7.out.trans (HB.out.1.mono B7.out.size));clear HB;go_wp2_with fail
    go_ret
    exact ⟨rfl,FIN.out⟩
theorem k1b {w0 w:World} {B:Blk} {tb k:Nat} {es:Ents} (h:Hand w0 w B tb k es) (hk:k<=240) :
 Calls Tryz.prog 19 #[ptr tb] w (fun e w'=>e=.returned (.bool true)/\Below w.heap.size w w'):=by
 obtain ⟨d,t,r,dp,c,K,h1,h2⟩:=h;exact k4d h1 h2.good (by have:=h2.few;omega) (by have:=h2.own;omega)
open Page (Pg Lay PgOk g0c pgC pgV Enc g0v BytesAt strV strB PRow less Lt g1l g3h)
open Pool (Po NAt PoAt La poC poV numV At g0k g1g g1k g2m g0g OwnI chunks layAll May)
theorem Both.below {w0 w:World} {B:Blk} {tb lo mb k:Nat} {es:Ents} (h:Both w0 w B tb lo mb k es):Below w0.heap.size w0 w:=by
 obtain ⟨d,t,r,dp,c,K,h1,h2⟩:=h.hand;exact h1.below (Mod.refl _ _)
theorem k7y {w0 w:World} {B:Blk} {tb k:Nat} (h:Hand w0 w B tb k []):Both w0 (w.alloc (.cells #[.slice none 0 0] 29)) (h1r B w.heap.size) tb w.heap.size w.heap.size k []:=by
 have b:=Pool.g0a w (.cells #[.slice none 0 0] 29);have a:=at_new w #[.slice none 0 0] 29;have hw0:w0.heap.size<=w.heap.size:=by
  obtain ⟨d,t,r,dp,c,K,h1,h2⟩:=h;exact (h1.below (Mod.refl _ _)).size
 refine ⟨h.withx b (Nat.le_refl _) a.1,⟨Nat.le_refl _,none,0,a,fun h=>absurd rfl h,fun _=>rfl,Nat.le_refl _,fun x e=>by cases e⟩,fun x hx=>?_,List.mem_cons_self ..,hw0⟩;rcases Nat.lt_or_ge x w.heap.size with g | g
 ·exact g
 ·exact absurd hx (h.tall g)
open Page (Pg Lay PgOk g0c pgC pgV Enc g0v BytesAt strV strB PRow SRow IRow less g1l Lt)
theorem j3s {d d':St} {t t' t2:T} {b:Pg} {n m x:Int} {ks:List Disk.Bs} {ns:List Int} (h:g2n d t b [n] d' t' ks ns x) (hf:g0o b<=g1j b) (hp:g0x t d.n n=(t2,m,0)) (hc:Store.Calm d) (hfine:Page.Fine b) (hk:b.kind≠4) (h0:2<=m) (h1:m<d.n) (h2:d.n<=4096) :
 x=0/\ks=[]/\ns=[m]/\t'=t2/\Store.Calm d'/\d'.n=d.n/\LayR d t n b d' t' m 0/\∃ l,Enc m b l/\d'.get m=l:=by
 have e1:g4h b=[b]:=if_neg (by omega);have e2:g6m b=[]:=if_neg (by omega);obtain ⟨t1,os1,x1,hD,hR⟩:=h;rw [e1] at hD hR;have hh:t1=t/\os1=[n]/\x1=0:=by
  cases hD with
  | done _=>exact ⟨rfl,rfl,rfl⟩
  | fail h _ _=>simp at h
  | step h _ _=>simp at h
 obtain ⟨rfl,rfl,rfl⟩:=hh;rcases hR with ⟨h,_⟩ | ⟨_,hL,hks⟩
 ·exact absurd rfl h
 cases hL with
 | done h=>simp at h
 | fail hb hl hx =>
  simp only [List.getElem?_cons_zero,Option.some.injEq] at hb;subst hb;have:=j6n hl hp hc hfine hk h0 h1 h2;exact absurd this.2.1 hx
 | step hb hl hr =>
  simp only [List.getElem?_cons_zero,Option.some.injEq] at hb;subst hb;have hl':=hl;obtain ⟨rfl,-,rfl,c1,c2,c3⟩:=j6n hl hp hc hfine hk h0 h1 h2;cases hr with
  | done _=>exact ⟨rfl,by rw [hks,if_pos rfl,e2],rfl,rfl,c1,c2,hl',c3⟩
  | fail hb _ _=>simp at hb
  | step hb _ _=>simp at hb
theorem k3q {d d':St} {t t' t2:T} {b:Pg} {n N r dp m r' dp' x:Int} (h:CRel n N r dp b d t d' t' r' dp' x) (hb:g0o b≠0) (hf:g0o b<=g1j b) (hp:g0x t d.n n=(t2,m,0)) (hc:Store.Calm d) (hfine:Page.Fine b) (hk:b.kind≠4) (h0:2<=m) (h1:m<d.n) (h2:d.n<=4096) :
 x=0/\r'=m/\dp'=N/\t'=t2/\Store.Calm d'/\d'.n=d.n/\LayR d t n b d' t' m 0/\∃ l,Enc m b l/\d'.get m=l:=by
 rcases h with ⟨e,_⟩ | ⟨_,d1,t1,ks,ns,x1,hR,hh⟩
 ·exact absurd e hb
 obtain ⟨rfl,rfl,rfl,rfl,c1,c2,c3,c4⟩:=j3s hR hf hp hc hfine hk h0 h1 h2;rcases hh with ⟨e,_⟩ | ⟨_,_,rfl,rfl,rfl,rfl,rfl⟩ | ⟨_,e,_⟩
 ·exact absurd rfl e
 ·exact ⟨rfl,rfl,rfl,rfl,c1,c2,c3,c4⟩
 ·exact absurd rfl e
theorem j5y {d:St} {key:Disk.Bs} {r a:Int} {l:List Stp} (h:Down d key r l a) (hl:l.length=0):a=r/\l=[]:=by
 cases h with
 | nil=>exact ⟨rfl,rfl⟩
 | snoc=>simp at hl
theorem h8s {d:St} {key:Disk.Bs} {r:Int} {l:List Stp} {s:Stp} {b:Pg} (h:WayP d key r 1 l s) (hb:g0v r (d.readB r) b):s.p=b/\s.at_=r/\l=[]:=by
 obtain ⟨hd,hl,hp,-⟩:=h;obtain ⟨e,rfl⟩:=j5y hd (by omega);rw [e] at hp;exact ⟨Page.g6u hp.2.1 hb,e,rfl⟩
theorem j5x {d:St} {key:Disk.Bs} {r x:Int} {b:Pg} (h:WayQ d key r 1 x) (hr:d.readE r=0) (hb:g0v r (d.readB r) b) (hk:b.kind=1):False:=by
 obtain ⟨l,a,hd,hl,hn,-⟩:=h;obtain ⟨rfl,rfl⟩:=j5y hd (by omega);have:=hn hr b hb;simp at this;exact this hk
abbrev lf:Pg:=g0j [([97],[49])]
theorem p1e:Page.Fine lf:=by
 refine (Page.h6f rfl).2 ⟨⟨by simp,fun x hx=>?_,fun s hs=>?_,fun j hj=>?_⟩,rfl,rfl,rfl,rfl,rfl,rfl,rfl,rfl,rfl⟩
 ·simp only [List.mem_singleton] at hx;subst hx;show 1<=100;omega
 ·simp only [List.map_cons,List.map_nil,List.mem_singleton] at hs;subst hs;exact ⟨by decide,by decide⟩
 ·simp at hj
abbrev U2:T:={sup:=T0.sup,own:=[],base:={high:=2},pool:={high:=3},fresh:=fup (fun _=>false) 2 true}
theorem p1j {N:Int} (h:2<N):g0x T0 N 0=(U2,2,0):=by
 have e:g0k T0.pool N=({high:=3},2,0):=by
  show (if N<=2 then _ else _)=_;rw [if_neg (by omega)];rfl
 have e2:g0h T0 N=({T0 with pool:={high:=3}},2,0):=by rw [g0h,e];rfl
 rw [g0x,e2]
 rfl
abbrev U3:T:=newT U2 (g4d (g1q U2 2 1 1) U2 []) []
theorem p1s:Page.g6w (g1q U2 2 1 1):=⟨.inr ⟨by show (2:Int)<=2;omega,by show (2:Int)<=4095;omega⟩,.inl rfl,⟨by show (2:Int)<=3;omega,by show (3:Int)<=4096;omega⟩,⟨by show (0:Int)<=1;omega,by show (1:Int)<=20;omega⟩,⟨fun e=>absurd e (by decide),fun e=>absurd e (by decide)⟩,⟨by show (0:Int)<=1;omega,by show (1:Int)<=2147483647;omega⟩,⟨fun e=>absurd e (by decide),fun e=>absurd e (by decide)⟩⟩
abbrev U4:T:={U3 with pool:={high:=3,limbo:=[2]}}
theorem p0a:g1n U3 2=(U4,0):=by
 have e3:g1g {high:=3} 2=({high:=3,limbo:=[2]},0):=by
  rw [g1g,if_pos ⟨⟨by omega,by show (2:Int)<3;omega⟩,by simp,by simp⟩];rfl
 rw [g1n,if_neg (by decide),g2k];show ({U3 with pool:=(g1g {high:=3} 2).1},(g1g {high:=3} 2).2)=_;rw [e3]
theorem p3y {d d':St} {t':T} {r' dp' c' x:Int} (hc:Store.Calm d) (hn:d.n=32) (h:g6s NilP (fun _=>False) (fun _ s np=>CRel s.at_ 1 0 0 (g0j np) d T0) (fun l=>setP l [97] [49]) d T0 0 0 0 d' t' r' dp' c' x) :
 x=0/\r'=2/\dp'=1/\c'=1/\t'=U2/\Store.Calm d'/\d'.n=32/\LayR d T0 0 lf d' t' 2 0/\∃ l,Enc 2 lf l/\d'.get 2=l:=by
 rcases h with ⟨l,s,⟨rfl,rfl⟩,h,_⟩ | ⟨l,s,⟨rfl,rfl⟩,_,h,rfl⟩ | ⟨h,_⟩
 ·exact absurd h (by decide)
 ·have e:setP ([]:List (Disk.Bs×Disk.Bs)) [97] [49]=[([97],[49])]:=by decide
  have h':CRel 0 1 0 0 lf d T0 d' t' r' dp' x:=by
   have h2:=h;simp only at h2;rw [e] at h2;exact h2
  obtain ⟨rfl,rfl,rfl,rfl,g1,g2,g3,g4⟩:=k3q h' (by decide) (by decide) (p1j (by omega)) hc p1e (by decide) (by omega) (by omega) (by omega);exact ⟨rfl,rfl,rfl,by rw [if_pos rfl];simp only;rw [e];rfl,rfl,g1,g2.trans hn,g3,g4⟩
 ·exact h.elim
theorem p4e {d d':St} {t':T} {r' dp' c' x:Int} {had:Bool} (hr:d.readE 2=0) (hb:g0v 2 (d.readB 2) lf) (h:CutD (WayP d [97] 2 1) (WayQ d [97] 2 1) (fun _ s np=>CRel s.at_ 1 2 1 (g0j np) d U3) [97] d U3 2 1 1 d' t' r' dp' c' x had) :
 x=0/\r'=0/\dp'=0/\c'=0/\had=true/\t'=U4/\d'=d:=by
 rcases h with ⟨l,s,hp,h,_⟩ | ⟨l,s,hp,_,h,rfl,rfl⟩ | ⟨h,_⟩
 ·rw [(h8s hp hb).1] at h;exact absurd h (by decide)
 ·obtain ⟨e1,e2,-⟩:=h8s hp hb;have e:cutP [(([97]:Disk.Bs),([49]:Disk.Bs))] [97]=[]:=by decide
  have h':CRel 2 1 2 1 (g0j []) d U3 d' t' r' dp' x:=by
   have h2:=h;rw [e1,e2,show lf.pairs=[([97],[49])] from rfl,e] at h2;exact h2
  rcases h' with ⟨_,rfl,rfl,rfl,⟨_,rfl,rfl⟩ | ⟨hx,_⟩⟩ | ⟨h0,_⟩
  ·rw [p0a,e1];exact ⟨rfl,rfl,rfl,rfl,by decide,rfl,rfl⟩
  ·rw [p0a] at hx;exact absurd rfl hx
  ·exact absurd rfl h0
 ·exact (j5x h hr hb rfl).elim
theorem p4a {d d':St} {t':T} {r' dp' c' x:Int} {had:Bool} (h:CutD NilP (fun _=>False) (fun _ s np=>CRel s.at_ 1 0 0 (g0j np) d U4) [97] d U4 0 0 0 d' t' r' dp' c' x had) :
 x=0/\r'=0/\dp'=0/\c'=0/\had=false:=by
 rcases h with ⟨l,s,⟨rfl,rfl⟩,_,rfl,rfl,rfl,rfl,rfl,rfl,rfl⟩ | ⟨l,s,⟨rfl,rfl⟩,h,_⟩ | ⟨h,_⟩
 ·exact ⟨rfl,rfl,rfl,rfl,by decide⟩
 ·exact absurd (by decide) h
 ·exact h.elim
end Go.Proofs.YtglejnkoojpelaaGreat.Tree
