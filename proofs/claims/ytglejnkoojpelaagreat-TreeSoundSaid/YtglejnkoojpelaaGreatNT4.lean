import Derived.Test.YtglejnkoojpelaaGreatMT13
import Derived.Test.YtglejnkoojpelaaGreatNT3
set_option maxRecDepth 100000
set_option maxHeartbeats 32000000
namespace Go.Proofs.YtglejnkoojpelaaGreat.Tree
open Go.RowKit Gen
open Disk (St Dev Mod ptr)
open Page (Pg Lay PgOk g0c pgC pgV Enc g0v BytesAt strV strB PRow SRow IRow less g1l Lt)
open Pool (Po NAt PoAt La poC poV numV At g0k g1g g1k g2m g0g OwnI chunks layAll May)
open Store
open Lib (hid)
theorem p3s:I64 1:=⟨by omega,by omega⟩
theorem p3g:I64 2:=⟨by omega,by omega⟩
theorem k5t {w0 w:World} {B:Blk} {tb:Nat} {d:St} {t:T} {r c:Int} (h:TrOn w0 w B tb d t r 1 c) (key:Disk.Bs) (W:World) (hb:Below w.heap.size w W) :
 Calls Tryz.prog 97 #[ptr tb,strV key] W (j2x (WayP d key r 1) (WayQ d key r 1) W):=by
 obtain ⟨a,s⟩:=(h.quiet hb).sto.has;exact h1s s (m:=0) (by omega) (h.quiet hb).box key
theorem p2v {w0 w:World} {B:Blk} {tb:Nat} {d:St} {t:T} {c:Int} (h:TrOn w0 w B tb d t 2 1 c) (hr:d.readE 2=0) (hb:g0v 2 (d.readB 2) lf) (key v:Disk.Bs) (b:Bool) (hv:valOf lf.pairs key=v) (hh:g2j (keysOf lf.pairs) key=b) :
 Calls Tryz.prog 49 #[ptr tb,strV key] w (fun e w'=>e=.returned (.tuple #[strV v,.bool b,numV 0])/\Below w.heap.size w w'):=by
 refine (j4o h key (P:=WayP d key 2 1) (Q:=WayQ d key 2 1) (fun l s hp=>by have:=g5i hp;exact ⟨this.1,by omega⟩) (k5t h key)).mono ?_;rintro e w' (⟨l,s,hp,rfl,bl⟩ | ⟨x,hq,_⟩)
 ·rw [(h8s hp hb).1,hv,hh];exact ⟨rfl,bl⟩
 ·exact (j5x hq hr hb rfl).elim
theorem k4j (w:World):Calls Tryz.prog 15 #[] w (fun e w'=>e=.returned (.bool true)/\Below w.heap.size w w'):=by
 have cN:Calls Tryz.prog 16 #[.int .i64 32] w _:=k4u 32 (by omega) (by omega) w;go_enter Tryz.func15,Tryz.ntmps15
 go_wp2_with fail
 refine cN.mono ?_;rintro e w1 ⟨B,tb,d1,rfl,H1,sf,cm,hn⟩;have H1':=hid H1;have SF:=hid sf;have CM:=hid cm;have HN:=hid (show d1.n=32 from hn);have MEM:=hid H1.mem;have cS:Calls Tryz.prog 48 #[ptr tb,.string {data:=#[97]},.string {data:=#[49]}] w1 _:=j1r H1 (by omega) [97] [49] (by decide) (by decide) (by decide);clear H1 sf cm hn cN;go_wp2_with fail
 refine cS.mono ?_;rintro e w2 ⟨d2,t2,r2,dp2,c2,x2,rfl,hR,m2,hok,-⟩;obtain ⟨rfl,rfl,rfl,rfl,rfl,cm2,n2,hl,la,hla,hga⟩:=p3y CM.out HN.out hR;have H2:=hid (hok rfl);have ST:=(Pre.refl SF.out.pre).lay SF.out.pre hl;have P2:=hid (ST.pre SF.out.pre);have CM2:=hid cm2;have N2:=hid n2;have LA:=hid (show Enc 2 lf la/\d2.get 2=la from ⟨hla,hga⟩);have rd:=h8z cm2.1 (x:=2) (by omega) (by rw [n2];omega)
 have RD:=hid (show d2.readE 2=0/\g0v 2 (d2.readB 2) lf from ⟨rd.1,by rw [rd.2,hga];exact Page.g7a hla (by show 0<_;omega)⟩);clear hR m2 hok hl hla hga rd cm2 n2 ST SF CM HN H1' cS;have cG:Calls Tryz.prog 49 #[ptr tb,.string {data:=#[97]}] w2 _:=p2v H2.out RD.out.1 RD.out.2 [97] [49] true (by decide) (by decide);go_wp2_with fail
 refine cG.mono ?_;rintro e w3 ⟨rfl,b3⟩;have H3:=hid (H2.out.quiet b3);have cH:Calls Tryz.prog 49 #[ptr tb,.string {data:=#[98]}] w3 _:=p2v H3.out RD.out.1 RD.out.2 [98] [] false (by decide) (by decide);clear b3 cG H2;go_wp2_with fail
 refine cH.mono ?_;rintro e w4 ⟨rfl,b4⟩;have H4:=hid (H3.out.quiet b4);have cD:=h5r H4.out.box;have cC:=h0j H4.out.box;have cR:=j5m H4.out.box;clear b4 cH H3;go_wp2_with fail
 refine cD.mono ?_;rintro e w' ⟨rfl,rfl⟩;clear cD;go_wp2_with fail
 refine cC.mono ?_;rintro e w' ⟨rfl,rfl⟩;clear cC;go_wp2_with fail
 refine cR.mono ?_;rintro e w' ⟨rfl,rfl⟩;clear cR;have cB:Calls Tryz.prog 48 #[ptr tb,.string {data:=#[]},.string {data:=#[]}] w4 _:=k3j [] [] (.inl (by decide));go_wp2_with fail
 refine cB.mono ?_;rintro e w5 ⟨rfl,b5⟩;have H5:=hid (H4.out.quiet b5);have cK:=j6k H5.out p3g p3s p3s (by show 0<=100000;omega) (fun x hx=>by cases hx);clear b5 cB H4;go_wp2_with fail
 refine cK.mono ?_;rintro e w6 ⟨d3,t3,x,rfl,hc,-,hok,-⟩;obtain ⟨rfl,rfl⟩:=h7d hc CM2.out (by rw [N2.out];omega) rfl rfl p1s;rcases g9w P2.out (by show 1+1<_;omega) hc with ⟨hx,-⟩ | ⟨hx,-⟩ | ⟨-,md⟩
 ·exact absurd rfl hx
 ·exact absurd rfl hx
 have H6:=hid (hok rfl);have hlive:Live U3.base 2:=⟨by omega,by show (2:Int)<3;omega,by show (2:Int)∉layAll [] [];decide⟩;have hget:d3.get 2=la:=by
  rw [md.safe.get (.inr (.inr hlive)),md.fresh 2 rfl];exact LA.out.2
 have hcm:=md.calm CM2.out;have hn3:=md.n.trans N2.out;have rd:=h8z hcm.1 (x:=2) (by omega) (by rw [hn3];omega);have RD3:=hid (show d3.readE 2=0/\g0v 2 (d3.readB 2) lf from ⟨rd.1,by rw [rd.2,hget];exact Page.g7a LA.out.1 (by show 0<_;omega)⟩);have cU:Calls Tryz.prog 52 #[ptr tb,.string {data:=#[97]}] w6 (h6b (CutD (WayP d3 [97] 2 1) (WayQ d3 [97] 2 1) (fun _ s np=>CRel s.at_ 1 2 1 (g0j np) d3 U3) [97] d3 U3 2 1 1) w B tb w6):=k8q H6.out p3g (by omega) [97]
 clear hc hok md hlive hget hcm hn3 rd cK H5 P2 CM2 N2 LA RD;go_wp2_with fail
 refine cU.mono ?_;rintro e w7 ⟨d4,t4,r4,dp4,c4,x,had,rfl,hR,-,hok,-⟩;obtain ⟨rfl,rfl,rfl,rfl,rfl,rfl,rfl⟩:=p4e RD3.out.1 RD3.out.2 hR;have H7:=hid (hok rfl);have cV:Calls Tryz.prog 52 #[ptr tb,.string {data:=#[97]}] w7 (h6b (CutD NilP (fun _=>False) (fun _ s np=>CRel s.at_ 1 0 0 (g0j np) d4 U4) [97] d4 U4 0 0 0) w B tb w7):=j6y H7.out (by omega) [97];have hb1:(true&&decide ((0:Int)=0))=true:=by decide
 rw [hb1];clear hR hok cU H6 RD3 hb1;go_wp2_with fail
 refine cV.mono ?_;rintro e w8 ⟨d5,t5,r5,dp5,c5,x,had,rfl,hR,-,hok,-⟩;obtain ⟨rfl,rfl,rfl,rfl,rfl⟩:=p4a hR;have H8:=hok rfl;have cD:=h5r H8.box;have cC:=h0j H8.box;have cT:=j2b H8.box;have FIN:=hid (H8.below (Mod.refl _ _));have hb2:(false&&decide ((0:Int)=0))=false:=by decide
 rw [hb2];have hs:(strB [49]).toList=[49]:=Page.g0m _;clear hR hok cV H7 hb2 H8;go_wp2_with fail
 refine cD.mono ?_;rintro e w' ⟨rfl,rfl⟩;clear cD;go_wp2_with fail
 refine cC.mono ?_;rintro e w' ⟨rfl,rfl⟩;clear cC;go_wp2_with fail
 refine cT.mono ?_;rintro e w' ⟨rfl,rfl⟩;clear cT;go_wp2_with fail
 go_ret
 exact ⟨rfl,FIN.out⟩
open Page (Pg Lay PgOk g0c pgC pgV strV strB)
open Pool (numV At)
theorem own:ownKnob Tryz.prog.godebug=none:=by kernel_rfl
open Go.ChangeShapes Go.WideShapes Go.ChangeAt Go.WideMaps Go.WideElems Go.RowKit Go.Deep Gen
open Page
structure h9y where
 kind:Int
 key:Disk.Bs
 val:Disk.Bs
abbrev h0q (x:h9y):Array Value:=#[.int .i64 x.kind,strV x.key,strV x.val]
def k9u (W:World) (A:Option Addr) (l:List h9y):Prop:=l≠[]->∃ b off,A=some ⟨b,off,none⟩/\b<W.heap.size/\∀ j (h:j<l.length),W.rangeAt b (off+j*3) (h0q l[j]).toList
theorem h5u:Tryz.prog.cellsOf 32=3:=by kernel_rfl
theorem j9c:(Tryz.prog.info? 32).map (·.size)=some 3:=by kernel_rfl
theorem j8u {w:World} {b o:Nat} {x:h9y} (h:w.rangeAt b o (h0q x).toList):(Instr.loadAt 32 (.pointer (some ⟨b,o,none⟩))).run Tryz.prog w=.ok (.agg (h0q x)) w:=by
 have:=run_loadAt_mid (P:=Tryz.prog) w b o 32 (h0q x).toList _ h Tryz.underlying32 rfl (by simpa using j9c)
 simpa using this
section
variable {H:Type} {enc:TypeId×Value->H} {W:World} {fuel:Nat} {x:DataW H×List MemPlace}
theorem j8r {cs':List Value} (hf:DataW.trod enc Tryz.prog W 0 (fun _=>true) true fuel 32 cs'=some x):∃ c:h9y,cs'=(h0q c).toList:=by
 obtain ⟨xs,n,_,_,hlen,hxl,hg⟩:=DataW.trod_struct Tryz.underlying32 hf;rw [h5u] at hlen;have h0:=hg 0 _ rfl;have h1:=hg 1 _ rfl;have h2:=hg 2 _ rfl
 match cs',hlen,xs,hxl with
 | [v0,v1,v2],_,[y0,y1,y2],_ =>
  simp only [List.getElem?_cons_succ,List.getElem?_cons_zero] at h0 h1 h2;obtain ⟨k0,e0,_,w0⟩:=DataW.trod_int Tryz.underlying3 h0;obtain ⟨s1,e1⟩:=j1z h1;obtain ⟨s2,e2⟩:=j1z h2;refine ⟨⟨k0,s1,s2⟩,?_⟩;rw [(List.cons.inj (show [v0]=[Value.int .i64 k0] from e0)).1,(List.cons.inj e1).1,(List.cons.inj e2).1]
end
theorem j2y {H:Type} {enc:TypeId×Value->H} {W:World} {base:Nat} {v:Value} {d:DataW H} {ps:List MemPlace} (hval:Value.okWide Tryz.prog W .any base 22 v)
 (h:DataW.Trod enc Tryz.prog W 0 (fun _=>true) true 22 v d ps):∃ (A:Option Addr) (n c:Nat) (l:List h9y),v=.slice A n c/\l.length=n/\n<=c/\c<=maxLen/\k9u W A l:=by
 obtain ⟨a0,len,cap,rfl⟩:=okWide_slice Tryz.underlying22 hval;obtain ⟨fuel,hf⟩:=h;rcases open_slice Tryz.underlying22 hf with ⟨hcs,_⟩ | ⟨a,len',cap',m,n,D,Pl,hcs,_,hl,hm,hmm,_,hi⟩
 ·simp [Value.cells] at hcs;obtain ⟨rfl,rfl,rfl⟩:=hcs;exact ⟨none,0,0,[],rfl,rfl,Nat.le_refl _,Nat.zero_le _,fun h=>absurd rfl h⟩
 ·simp [Value.cells] at hcs;obtain ⟨rfl,rfl,rfl⟩:=hcs;have hmc:m=cap:=by simpa using hmm
  subst hmc;obtain ⟨l,hll,hp⟩:=k3f (fun j c=>W.cells? 0 (a.add (j*3)) 3=some (h0q c).toList) len (fun j hj=>by
   obtain ⟨cs',hc,ht⟩:=hi j (by omega);rw [h5u] at hc;obtain ⟨c,rfl⟩:=j8r ht;exact ⟨c,hc⟩)
  refine ⟨some a,len,m,l,rfl,hll,hl,hm,fun hne=>?_⟩;have h0:0<l.length:=List.length_pos_iff.2 hne;obtain ⟨b,off,spot⟩:=a;have g0:=(World.cells?_some (hp 0 h0)).2.2 0 (by simp);have hspot:spot=none:=by simpa [Addr.add] using World.cell?_spot g0
  subst hspot;rw [h3l,h3l] at g0;refine ⟨b,off,rfl,block_lt_of_cell g0,fun j hj i v hv=>?_⟩;have g:=(World.cells?_some (hp j hj)).2.2;simp only [h3l] at g;have hi:i<((h0q l[j]).toList).length:=(List.getElem?_eq_some_iff.1 hv).1;exact (g i (by simpa using hi)).trans hv
theorem k3r (x:h9y) (w:World):Calls Tryz.prog 17 #[.agg (h0q x)] w (fun e w'=>e=.returned (.bool (decide (x.key.length<=100/\x.val.length<=200)))/\Below w.heap.size w w'):=by
 have b1:=Pool.g0a w (.cells (h0q x) 32);have a1:=Store.at_new w (h0q x) 32;obtain ⟨k,y,v⟩:=x;obtain ⟨ks,hks⟩:∃ ks,strB y=ks:=⟨_,rfl⟩;obtain ⟨vs,hvs⟩:∃ vs,strB v=vs:=⟨_,rfl⟩;have k1:ks.size=y.length:=by rw [<- hks];exact Page.g3b y
 have v1:vs.size=v.length:=by rw [<- hvs];exact Page.g3b v
 have ek:strV y=.string ks:=by rw [<- hks]
 have ev:strV v=.string vs:=by rw [<- hvs]
 rw [show (decide ((⟨k,y,v⟩:h9y).key.length<=100/\(⟨k,y,v⟩:h9y).val.length<=200))=decide (ks.size<=100/\vs.size<=200) by rw [k1,v1]];have e0:h0q ⟨k,y,v⟩=#[.int .i64 k,.string ks,.string vs]:=by show #[_,strV y,strV v]=_;rw [ek,ev]
 rw [e0] at b1 a1 ⊢;obtain ⟨W1,hW1⟩:∃ W1,w.alloc (.cells #[.int .i64 k,.string ks,.string vs] 32)=W1:=⟨_,rfl⟩;rw [hW1] at b1 a1;have c1:W1.cell? ⟨w.heap.size,1,none⟩=some (.string ks):=a1.2.2 1 _ rfl;have c2:W1.cell? ⟨w.heap.size,2,none⟩=some (.string vs):=a1.2.2 2 _ rfl;have B1:=hid b1;clear b1 a1 hks hvs k1 v1 ek ev e0
 by_cases h1:ks.size<=100
 ·by_cases h2:vs.size<=200
  ·have ed:decide (ks.size<=100/\vs.size<=200)=true:=decide_eq_true ⟨h1,h2⟩;rw [ed];have t1:(ks.size:Int)<=100:=by omega
   have t2:(vs.size:Int)<=200:=by omega
   clear h1 h2 ed;go_enter Tryz.func17,Tryz.ntmps17
   go_wp2_with fail
   go_ret
   exact ⟨rfl,B1.out⟩
  ·have ed:decide (ks.size<=100/\vs.size<=200)=false:=decide_eq_false (fun h=>h2 h.2);rw [ed];have t1:(ks.size:Int)<=100:=by omega
   have t2:¬ (vs.size:Int)<=200:=by omega
   clear h1 h2 ed;go_enter Tryz.func17,Tryz.ntmps17
   go_wp2_with fail
   go_ret
   exact ⟨rfl,B1.out⟩
 ·have ed:decide (ks.size<=100/\vs.size<=200)=false:=decide_eq_false (fun h=>h1 h.1);rw [ed];have t1:¬ (ks.size:Int)<=100:=by omega
  clear h1 ed;go_enter Tryz.func17,Tryz.ntmps17
  go_wp2_with fail
  go_ret
  exact ⟨rfl,B1.out⟩
open Page (Pg Lay PgOk g0c pgC pgV Enc g0v BytesAt strV strB PRow less Lt g1l g3h)
theorem j8o {A:Option Addr} {n c:Nat} {l:List h9y} (W:World) (hl:l.length=n) (hs:k9u W A l) :
 Calls Tryz.prog 3 #[.slice A n c] W fun e W'=>e=.returned (.bool true)/\Below W.heap.size W W':=by
 have cA:=k4j W;have HL:=hid hl;have HS:=hid hs;clear hl hs;go_enter Tryz.func3,Tryz.ntmps3
 go_wp2_with fail
 refine cA.mono ?_;rintro e w1 ⟨rfl,b1⟩;have cN:=p2g w1;have B1:=hid b1;clear b1 cA;go_wp2_with fail
 refine cN.mono ?_;rintro e w2 ⟨B,tb,rfl,h2,-⟩;have BO:=k7y h2;obtain ⟨mb,hmb⟩:∃ mb,w2.heap.size=mb:=⟨_,rfl⟩;obtain ⟨w3,hw3⟩:∃ w3,w2.alloc (.cells #[.slice none 0 0] 29)=w3:=⟨_,rfl⟩;have EM:=hid hmb;have EW:=hid hw3;rw [hw3,hmb] at BO;obtain ⟨B',hB⟩:∃ B',h1r B mb=B':=⟨_,rfl⟩;rw [hB] at BO;have BO:=hid BO;clear h2 hB cN hmb hw3;go_wp2_with fail
 rw [EM.out,EW.out];clear EM EW;go_loopw [6] (fun i wr=>∃ k:Nat,i=.int .i64 (k:Int)/\k<=n/\k<=200/\Hid (∃ es,Both w1 wr B' tb mb mb k es)) (fun i _=>n-(intOf i).toNat)
 case atStart=>exact ⟨0,rfl,Nat.zero_le _,Nat.zero_le _,hid ⟨_,BO.out⟩⟩
 case round =>
  obtain ⟨k,rfl,hk,hk2,HB⟩:=hrel;clear BO;have hwr:IntKind.i64.wrap ((k:Int)+1)=(k:Int)+1:=IntWalk.i64_in _ (by omega)
  by_cases hgo:k<n/\k<200
  rotate_left
  ·obtain ⟨es,hb⟩:=HB.out;have cS:=k1b hb.hand (by omega);have BB:=hid (B1.out.trans (hb.below.mono B1.out.size));clear hb HB hwr
   by_cases hkn:k<n
   have t1:(k:Int)<(n:Int):=by omega
   have t2:¬ (k:Int)<200:=by omega
   clear hgo hkn;go_wp2_with fail
   rotate_left
   have t1:¬ (k:Int)<(n:Int):=by omega
   clear hgo hkn;go_wp2_with fail
   all_goals
    refine cS.mono ?_;rintro e w4 ⟨rfl,b4⟩;have FIN:=hid (BB.out.trans (b4.mono BB.out.size));clear cS b4;go_wp2_with fail
    go_ret
    exact ⟨rfl,FIN.out⟩
  obtain ⟨es,hb⟩:=HB.out;have H0:=hid hb;have t1:(k:Int)<(n:Int):=by omega
  have t2:(k:Int)<200:=by omega
  have t3:(0:Int)<=(k:Int):=by omega
  have hkl:k<l.length:=by have:=HL.out;omega
  obtain ⟨b,off,rfl,hbl,hc⟩:=HS.out (by intro e;rw [e] at hkl;simp at hkl);have hcx:=hc k hkl;obtain ⟨x,hx⟩:∃ x,l[k]=x:=⟨_,rfl⟩;rw [hx] at hcx;have L:=hid (show ∀ w',Below w1.heap.size w1 w'->(Instr.loadAt 32 (.pointer (some ⟨b,off+k*3,none⟩))).run Tryz.prog w'=.ok (.agg (h0q x)) w'/\w'.cell? ⟨b,off+k*3,none⟩=some (.int .i64 x.kind) from fun w' hb'=>by
   have:=Store.j4r hcx hbl (B1.out.trans (hb'.mono B1.out.size));exact ⟨j8u this,this 0 _ rfl⟩)
  have cS:=k3r x wr;have cD0:=hid (show ∀ w4,Both w1 w4 B' tb mb mb k es->Calls Tryz.prog 18 #[Disk.ptr tb,Disk.ptr mb,.agg (h0q x)] w4 (fun e w'=>e=.returned (.bool true)/\∃ es',Both w1 w' B' tb mb mb (k+1) es') from fun w4 h=>(p0z h (by omega) x.kind x.key x.val).mono (fun e w' ⟨h1,h2,_⟩=>⟨h1,_,h2⟩));have K2:k+1<=n/\k+1<=200:=by omega
  obtain ⟨sm,hsm⟩:∃ sm,decide (x.key.length<=100/\x.val.length<=200)=sm:=⟨_,rfl⟩;rw [hsm] at cS;obtain ⟨kd,hkd⟩:∃ kd,x.kind=kd:=⟨_,rfl⟩;rw [hkd] at L;obtain ⟨cv,hcv⟩:∃ cv,h0q x=cv:=⟨_,rfl⟩;rw [hcv] at cS L cD0;have l0:=L.out wr H0.out.below;clear hc hcx hb HB hgo hx hk hk2 hkl hbl hcv hsm hkd;have L0:=hid l0.1;clear l0;go_wp2_with (first | ((with_reducible refine Disk.g0d rfl 32 (.tmp 28) rfl _ ?_ L0.out ?_);(next=>rfl)))
  refine cS.mono ?_;rintro e w5 ⟨rfl,b5⟩;have H5:=hid (H0.out.quiet b5);clear b5 cS H0 L0;obtain ⟨-,kc⟩:=L.out w5 H5.out.below;rcases sm with _ | _
  ·have HF:=hid (H5.out.more (Nat.le_succ k));clear H5 L cD0 kc;go_wp2_with fail
   go_roundw
   case rel=>exact ⟨k+1,by go_num,K2.1,K2.2,hid ⟨_,HF.out⟩⟩
   case measure=>simp [intOf];omega
  by_cases hkd:kd=3
  ·have d1:(kd==3)=true:=by simp [hkd]
   have HF:=hid (H5.out.more (Nat.le_succ k));clear H5 L cD0 hkd;go_wp2_with fail
   go_roundw
   case rel=>exact ⟨k+1,by go_num,K2.1,K2.2,hid ⟨_,HF.out⟩⟩
   case measure=>simp [intOf];omega
  have d1:(kd==3)=false:=beq_eq_false_iff_ne.2 hkd;have L4:=hid (L.out w5 H5.out.below).1;have cD:=cD0.out w5 H5.out;clear L cD0 hkd;go_wp2_with (first | ((with_reducible refine Disk.g0d rfl 32 (.tmp 43) rfl _ ?_ L4.out ?_);(next=>rfl)))
  refine cD.mono ?_;rintro e w6 ⟨rfl,es',h6⟩;have H6:=hid h6;clear cD L4 H5 h6 kc;go_wp2_with fail
  go_roundw
  case rel=>exact ⟨k+1,by go_num,K2.1,K2.2,hid ⟨_,H6.out⟩⟩
  case measure=>simp [intOf];omega
end Go.Proofs.YtglejnkoojpelaaGreat.Tree
